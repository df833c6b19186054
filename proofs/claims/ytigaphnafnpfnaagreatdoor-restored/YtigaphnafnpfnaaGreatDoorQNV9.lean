import Derived.Test.YtigaphnafnpfnaaGreatDoorQNV8
set_option linter.unusedVariables false
set_option linter.unusedSimpArgs false
set_option maxHeartbeats 8000000
set_option maxRecDepth 100000
namespace Go.Proofs.YtigaphnafnpfnaaGreatDoor
open Go.RowKit Go.Maps
attribute [local go_sem ↓] Go.wp_at_zero Go.wp_at_succ
def Yb(bv bm bo i b s t k:Nat)(V:aS)(lZ:Lm)(af aK:Int)(bk:Nat->Nat)(lw:Nat)(w:World)(v:Value)(w':World):Prop :=
 Au bv (V.bk i) b s t bm bo ⟨(V.B i).leave V.om t k,aQ V.om b (dV (V.om b) af aK),V.lg.dI b (V.om b)⟩ lZ (fun x=>∃id,V.aW id=some x) w bk lw (V.lm.ac.map Prod.snd) V.lm.tb v w'
theorem CB(bv bm bo b i:Nat)(V:aS)(id af aK:Int)(w:World)(bk:Nat->Nat)(R:dS w bv bm bo V)(hT:kP w)(hid:(Lit.int .i64 id).wf=true)(hn:V.aW id=some b)(h0:(V.om b).aO≠0)(hp:dX af=true)(hq:dX aK=true)(hi:i<V.nb)
 (hpr:af=(V.om b).af) (hle:aK<=(V.om b).aO) (hna:V.lg.ud+V.lg.na<3000000) (hpl:Hid (V.lg.pl=fJ (yl id af aK) ⟨#[114,101,112,108,97,99,101]⟩ 3)) :
 CT 38 #[PP bv,II id,II af,II aK] w fun e w'=>e=.returned (.tuple #[.agg #[II 0,II aK,II 0,II 0,II 0],II 0]) /\
  Mk w' (V.bk i) (V.B i) (aQ V.om b (dV (V.om b) af aK)) (fun x=>∃id,V.aW id=some x)/\Fv bv bm bo V.lg V.lm bk true [.gp b (V.om b)] w w'/\aj (fun x=>x=bv\/V.lm.F x\/x=b) w w':=by
 obtain⟨wa,xC⟩:=kL (w.alloc (.cells lX 87));have ka:aj aJ w wa:=by rw[xC];exact (aj.refl aJ w).alloc _
 have hra:aA wa w.heap.size lX 87:=by rw[xC];exact aA.new w _ _
 have L2:=(R.aB ka).xO hid;rw[hn]at L2;simp only[ji]at L2;rw[xC]at L2;simp only[lX]at L2;obtain⟨-,ix,ho⟩:=R.bz id b hn;have o8:CC w b 8 (II (V.om b).aO):=ho.cell 8;have v1:CC w bv 1 (.map (some bo)):=R.dC.cell 1;have lv:=R.dC.lt;have lo:=ho.lt;have e0:((V.om b).aO == 0)=false:=by simp[h0]
 have e1:decide (aK<=(V.om b).aO)=true:=by simp[hle]
 have HW:Hid (wa=w.alloc (.cells #[II 0,II 0,II 0,II 0,II 0] 87)):=xC;have Bl:=rP ⟨#[114,101,112,108,97,99,101]⟩ (yl id af aK) 3 wa (hT.aB ka) (by decide) (by decide) (by omega) (fun i hi=>by
  match i,hi with
  | 0,_=>exact bounds_i64 hid
  | 1,_=>exact oQ (by simp[dX]at hp;show -1000000<=af/\af<=1000000;omega)
  | 2,_=>exact oQ (by simp[dX]at hq;show -1000000<=aK/\aK<=1000000;omega))
 generalize fJ (yl id af aK) ⟨#[114,101,112,108,97,99,101]⟩ 3=ln at Bl hpl;have nY:=au (oK bv bm bo V.lg V.lm ln wa (R.aB ka).aP hna Bl.1.1 Bl.1.2 (ae hpl));have Yi:=au Bl.2;have hsz:wa.heap.size=w.heap.size+1:=by rw[xC];simp
 have LD:Hid (∀i,i<3->(wa.alloc (.cells #[II id,II af,II aK] 3)).cell? ⟨w.heap.size+1,i,none⟩=some (II (yl id af aK i))):=by
  intro i hi;rw[<-hsz]
  match i,hi with
  | 0,_=>exact (aA.new wa _ _).cell 0
  | 1,_=>exact (aA.new wa _ _).cell 1
  | 2,_=>exact (aA.new wa _ _).cell 2
 clear Bl hsz;obtain⟨HR,HN,HPR,HE1⟩:=pJ R hn hpr e1;clear R hn ho h0 hle hpr xC e1;go_enter Tryz.func38,Tryz.ntmps38;go_wp2_with (first | (go_at_call 68;refine (dh _ _).mono ?_;rintro e w' ⟨rfl,rfl⟩) | fail);rw[<-ae HW];refine (ae Yi _ ((aj.refl aJ wa).alloc _) _ _ (ae LD)).mono ?_;rintro e wl ⟨rfl,kl⟩;have Ij:=au kl;clear kl;go_wp2_with fail;refine (ae nY _ (ae Ij)).mono ?_;rintro e wb ⟨rfl,l9,hLb,sW,kb,htb,-,hac⟩;clear Yi Ij LD;clear L2 o8 v1;have Rb:=((ae HR).aB ka).jM hLb kb;have hnb:({ V with lg:=V.lg.begun,lm:=l9 }:aS).aW id=some b:=ae HN;obtain⟨-,ixb,hob⟩:=Rb.bz id b hnb;have o8:CC wb b 8 (II (V.om b).aO):=aA.cell hob 8;have o5:wb.cell? ⟨b,5,none⟩=some (II af):=by rw[ae HPR];exact aA.cell hob 5
 have e1:=ae HE1;have hrb:=kb.aF hra (by
  rintro (e | e)
  ·omega
  ·have:=(ae HR).aP.aP.lt e;omega)
 have yM:∀x,l9.F x->V.lm.F x\/w.heap.size<=x:=fun x h=>(sW x h).imp_right (fun h=>Nat.le_trans ka.size h)
 have MW:aj (fun x=>x=bv\/V.lm.F x\/x=b) w wb:=ka.bI.trans (kb.mono (fun x h=>h.imp_right .inl));have HAm:=au (Iy (V.bk i) b (V.B i) V.om (fun x=>∃id,V.aW id=some x) af aK wb (Rb.tu hi) ⟨id,ae HN⟩);have rZ:Hid (∀w3 oP cp3,Mk w3 (V.bk i) (V.B i) (aQ V.om b (dV (V.om b) af aK)) (fun x=>∃id,V.aW id=some x)->aj (fun x=>x=b) wb w3->jS w3 b (V.om b) wb.heap.size oP cp3 ->
  CT 53 #[PP bv,.slice (some ⟨w3.heap.size,0,none⟩) 1 1] (w3.alloc (.cells #[.func oP #[] cp3] 1)) fun e w'=>e=.returned (.tuple #[]) /\
   Mk w' (V.bk i) (V.B i) (aQ V.om b (dV (V.om b) af aK)) (fun x=>∃id,V.aW id=some x)/\Fv bv bm bo V.lg V.lm bk true [.gp b (V.om b)] w w'/\aj (fun x=>x=bv\/V.lm.F x\/x=b) w w'/\aA w' w.heap.size lX 87):=by
  intro w3 oP cp3 m3 k3 f3;have h3:=hLb.jF k3 (fun x h=>by subst h;exact (Rb.tu hi).gK (.inr (.inl ⟨id,ae HN⟩)));have hr3:=k3.aF hrb (fun h=>by omega);have cb:iw wb bv bk w.heap.size true (V.lm.ac.map Prod.snd) V.lg.begun.nt V.lm.tb l9 []:=iw.begun htb hac;have c3:=cb.aC k3 (jL (Rb.tu hi) ⟨id,ae HN⟩);have i3:bU w3 bv bk w.heap.size (.gp b (V.om b)) (.func oP #[] cp3):=⟨_,_,rfl,f3.mono (by have:=ka.size;have:=kb.size;omega)⟩;refine (nJ bv bm bo _ l9 (.gp b (V.om b)) oP cp3 w3 bk w.heap.size true _ _ _ h3 c3 (fun _=>rfl) i3 (by show 0<V.lg.na+1;omega) (by show V.lg.na+1<=3000000;omega) (by show 0+1<1000000000;omega)).mono ?_;rintro e w' ⟨rfl,bM,a1,a2,a3',-,a5⟩;have a3:aj (fun x=>l9.F x) w3 w':=a3'.mono (fun b h=>DR h);have Ea:=MW.trans (k3.mono (fun x h=>.inr (.inr h)));refine⟨rfl,m3.jw h3 (a3.mono (fun _ h=>.inr h)),⟨bM,a1,fun x hx=>?_,_,a5⟩,Ea.from (a3.mono (fun x h=>(yM x h).imp_left (fun h=>.inr (.inl h)))),a3.aF hr3 (h3.aP.ne hr3 (by decide) (by decide) (by decide))⟩;rcases a2 x hx with h | h
  ·exact yM x h
  ·exact .inr (Nat.le_trans Ea.size h)
 clear hob hnb Rb hLb sW kb htb hac nY hrb yM MW ka hra HW;go_wp2_with fail;refine (ae HAm).mono ?_;rintro e w3 ⟨oP,cp3,rfl,f3,m3,k3⟩;go_wp2_with fail;refine (ae rZ w3 oP cp3 m3 k3 f3).mono ?_;rintro e w4 ⟨rfl,m4,ac4,Gh,hr4⟩;obtain⟨r0,r1,r2,r3,r4⟩:=hr4.c5;have q0:=hr4.frozen 0;have q1:=hr4.frozen 1;have q2:=hr4.frozen 2;have q3:=hr4.frozen 3;have q4:=hr4.frozen 4;obtain⟨HM4,HA4,Py⟩:=eY m4 ac4 Gh;clear m3 k3 m4 ac4 Gh o8 o5;go_wp2;have kB:aj (fun x=>x=w.heap.size) w4 (((((w4.setCell ⟨w.heap.size,0,none⟩ (II 0)).setCell ⟨w.heap.size,1,none⟩ (II aK)).setCell ⟨w.heap.size,2,none⟩ (II 0)).setCell ⟨w.heap.size,3,none⟩ (II 0)).setCell ⟨w.heap.size,4,none⟩ (II 0)) :=
  (((((aj.refl (fun x=>x=w.heap.size) w4).setCell (p:=⟨w.heap.size,0,none⟩) (.inl rfl) _).setCell (p:=⟨w.heap.size,1,none⟩) (.inl rfl) _).setCell (p:=⟨w.heap.size,2,none⟩) (.inl rfl) _).setCell (p:=⟨w.heap.size,3,none⟩) (.inl rfl) _).setCell (p:=⟨w.heap.size,4,none⟩) (.inl rfl) _
 refine bodyPost_ret (O6 _ w.heap.size _ 0 aK 0 0 0 0 rfl rfl ?_) rfl ⟨rfl,?_,?_,?_⟩
 ·exact ((((hr4.set 0 _).set 1 _).set 2 _).set 3 _).set 4 _
 ·have mA:=ae HM4;refine mA.aC kB (fun e=>?_) (fun x hx e=>?_) (fun y hy x hx e=>?_)
  ·have:=((ae HR).aY i hi).aF.lt;omega
  ·obtain⟨ix',ho'⟩:=mA.bz x hx;subst e;exact aA.ne ho' hr4 (by decide) rfl
  ·subst e;exact (mA.aY.side y hy).ne hr4 (by decide) hx
 ·obtain⟨bM,a1,a2,cl4,a3⟩:=ae HA4;exact⟨bM,a1.aC kB (by omega) (fun x hx e=>a1.aP.ne hr4 (by decide) (by decide) (by decide) (by decide) (by decide) (e▸hx)),a2,cl4,a3.aC kB (nP.gK (fun x hx=>by subst hx;exact⟨_,87,hr4,by rintro (e | e | e | e | e | e | e | e | ⟨_,e⟩) <;> exact absurd e (by decide)⟩))⟩
 ·exact (ae Py).from (kB.mono (fun x h=>.inr (by omega)))
theorem Cj(bv bm bo b i s t k:Nat)(V:aS)(id af aK:Int)(w:World)(bk:Nat->Nat)(hbk:∀y,y<2->∀l,l<(V.B i).n y->bk ((V.B i).h y l)=V.bk i)(R:dS w bv bm bo V)(hT:kP w)(hid:(Lit.int .i64 id).wf=true)(hn:V.aW id=some b)(h0:(V.om b).aO≠0)(hp:dX af=true)(hq:dX aK=true)(hi:i<V.nb)(dR:(V.om b).sym=(V.B i).sym)(hlen:(V.B i).sym.size<=maxLen)
 (hs:s<2) (ht:t=1-s) (hk:k<(V.B i).n t) (hkb:(V.B i).h t k=b) (hside:(V.om b).side=(t:Int)) (hnk:¬(af=(V.om b).af/\aK<=(V.om b).aO))
 (iv:sV b s ⟨(V.B i).leave V.om t k,aQ V.om b (dV (V.om b) af aK),V.lg.dI b (V.om b)⟩) (hcn:(V.B i).n t<1000) (hcs:(V.B i).n s<=250) (hl1:V.lg.tp.length+300<1000000000) (hl2:V.lg.tr.length+300<1000000000) (hna:V.lg.ud+V.lg.na<3000000) (hpl:Hid (V.lg.pl=fJ (yl id af aK) ⟨#[114,101,112,108,97,99,101]⟩ 3)) :
 CT 38 #[PP bv,II id,II af,II aK] w fun e w'=>∃v w3 lZ,e=.returned (.tuple #[v,II 0])/\aj (fun x=>x=bv\/V.lm.F x\/x=V.bk i\/x=b\/dG (V.B i) t x) w w3/\(∀x,lZ.F x->V.lm.F x\/w.heap.size<=x)/\∃w4,Yb bv bm bo i b s t k V lZ af aK bk w.heap.size w3 v w4/\aA w4 w.heap.size lX 87/\aj (fun x=>x=w.heap.size) w4 w':=by
 have t2:t<2:=by omega
 obtain⟨wa,xC⟩:=kL (w.alloc (.cells lX 87));have ka:aj aJ w wa:=by rw[xC];exact (aj.refl aJ w).alloc _
 have hra:aA wa w.heap.size lX 87:=by rw[xC];exact aA.new w _ _
 have L2:=(R.aB ka).xO hid;rw[hn]at L2;simp only[ji]at L2;rw[xC]at L2;simp only[lX]at L2;obtain⟨-,ix,ho⟩:=R.bz id b hn;have o8:CC w b 8 (II (V.om b).aO):=ho.cell 8;have v1:CC w bv 1 (.map (some bo)):=R.dC.cell 1;have lv:=R.dC.lt;have lo:=ho.lt;have lb:=(R.aY i hi).aF.lt;have e0:((V.om b).aO == 0)=false:=by simp[h0]
 have hinj:ry ((V.B i).n t) ((V.B i).h t):=((R.aY i hi).side t t2).inj;have hnew:∀x,x<2->∀l,l<((V.B i).leave V.om t k).n x->((V.B i).leave V.om t k).h x l≠b:=by
  intro x hx l hl;by_cases e:x=t
  ·subst e;obtain⟨k',_,e',hne⟩:=oU (om:=V.om) hinj hk l hl;rw[e',<-hkb];exact hne
  ·simp only[Bk.leave,ah _ _ e]at hl ⊢;rw[<-hkb];have hd:=(R.aY i hi).vZ;have:(x=0/\t=1)\/(x=1/\t=0):=by omega
   rcases this with⟨rfl,rfl⟩ | ⟨rfl,rfl⟩
   ·exact hd l k hl hk
   ·exact fun e=>hd k l hk hl e.symm
 have hmu:mu b s ⟨(V.B i).leave V.om t k,aQ V.om b (dV (V.om b) af aK),V.lg.dI b (V.om b)⟩<=251:=by
  unfold mu;simp only[Bk.leave];rw[ah _ _ (by omega)];split <;> omega
 have uP:∀y,y<2->∀g,ig ((V.B i).sl y)=some g->g<w.heap.size:=fun y hy g hg=>((R.aY i hi).side y hy).lt hg
 have acF:=au uP;have aaS:Hid (∀W lZ uI,w.heap.size<=W.heap.size->iw W bv bk w.heap.size false (V.lm.ac.map Prod.snd) (V.lg.dI b (V.om b)).nt V.lm.tb lZ uI->Mk W (V.bk i) ((V.B i).leave V.om t k) (aQ V.om b (dV (V.om b) af aK)) (fun x=>∃id,V.aW id=some x)->bG W bv bm bo (V.lg.dI b (V.om b)) lZ->CT 70 #[PP bv,PP (V.bk i),PP b] W fun e w'=>∃v,e=.returned v/\Yb bv bm bo i b s t k V lZ af aK bk w.heap.size W v w'):=by
  intro W lZ uI hW hC m hl;refine SL bv (V.bk i) b s t bm bo ⟨(V.B i).leave V.om t k,aQ V.om b (dV (V.om b) af aK),V.lg.dI b (V.om b)⟩ lZ _ W bk w.heap.size _ _ uI hC hW (fun l hl=>by simp only[Bk.leave]at hl ⊢;rw[ah _ _ (by omega)]at hl ⊢;exact hbk s hs l hl) (by rw[<-hkb];exact hbk t t2 k hk) uP hl m hs ht ⟨id,hn⟩ iv (fun x hx l hl=>hnew x hx l hl) (by simp only[Bk.leave,ai];omega) 999999999 (by omega) ?_ ?_ ?_ ?_ ?_
  ·simp only[Lg.dI,Lg.begun,Lg.aX]at hmu ⊢;omega
  ·simp only[Lg.dI,Lg.begun,Lg.aX]at hmu ⊢;omega
  ·show 0<V.lg.na+1;omega
  ·show V.lg.na+1<=3000000;omega
  ·simp only[Lg.dI,Lg.begun,Lg.aX,List.nil_append,List.length_cons,List.length_nil]at hmu ⊢;omega
 have HW:Hid (wa=w.alloc (.cells #[II 0,II 0,II 0,II 0,II 0] 87)):=xC;have Bl:=rP ⟨#[114,101,112,108,97,99,101]⟩ (yl id af aK) 3 wa (hT.aB ka) (by decide) (by decide) (by omega) (fun i hi=>by
  match i,hi with
  | 0,_=>exact bounds_i64 hid
  | 1,_=>exact oQ (by simp[dX]at hp;show -1000000<=af/\af<=1000000;omega)
  | 2,_=>exact oQ (by simp[dX]at hq;show -1000000<=aK/\aK<=1000000;omega))
 generalize fJ (yl id af aK) ⟨#[114,101,112,108,97,99,101]⟩ 3=ln at Bl hpl;have nY:=au (oK bv bm bo V.lg V.lm ln wa (R.aB ka).aP hna Bl.1.1 Bl.1.2 (ae hpl));have Yi:=au Bl.2;have hsz:wa.heap.size=w.heap.size+1:=by rw[xC];simp
 have LD:Hid (∀i,i<3->(wa.alloc (.cells #[II id,II af,II aK] 3)).cell? ⟨w.heap.size+1,i,none⟩=some (II (yl id af aK i))):=by
  intro i hi;rw[<-hsz]
  match i,hi with
  | 0,_=>exact (aA.new wa _ _).cell 0
  | 1,_=>exact (aA.new wa _ _).cell 1
  | 2,_=>exact (aA.new wa _ _).cell 2
 clear Bl hsz;obtain⟨HR,HKB⟩:=dE R hkb;have hkp:((af == (V.om b).af) && decide (aK<=(V.om b).aO))=false:=by
  cases h1:(af == (V.om b).af)
  ·rfl
  ·have:af=(V.om b).af:=by simpa using h1
   have:¬aK<=(V.om b).aO:=fun h=>hnk ⟨this,h⟩
   simp[this]
 obtain⟨HKP,HN,RP,HSd⟩:=pJ hkp hn dR hside;clear R hn ho h0 dR uP hkb hside hnk iv hnew hinj hkp xC hmu;go_enter Tryz.func38,Tryz.ntmps38;go_wp2_with (first | (go_at_call 68;refine (dh _ _).mono ?_;rintro e w' ⟨rfl,rfl⟩) | fail);rw[<-ae HW];refine (ae Yi _ ((aj.refl aJ wa).alloc _) _ _ (ae LD)).mono ?_;rintro e wl ⟨rfl,kl⟩;have Ij:=au kl;clear kl;go_wp2_with fail;refine (ae nY _ (ae Ij)).mono ?_;rintro e wb ⟨rfl,l9,hLb,sW,kb,htb,-,hac⟩;clear Yi Ij LD;clear L2 o8 v1;have Rb:=((ae HR).aB ka).jM hLb kb;have hnb:({ V with lg:=V.lg.begun,lm:=l9 }:aS).aW id=some b:=ae HN;obtain⟨-,ixb,hob⟩:=Rb.bz id b hnb;have o8:CC wb b 8 (II (V.om b).aO):=aA.cell hob 8;have o5:CC wb b 5 (II (V.om b).af):=aA.cell hob 5;have o2:wb.cell? ⟨b,2,none⟩=some (.string (V.B i).sym):=by rw[<-ae RP];exact aA.cell hob 2
 have v0:CC wb bv 0 (.map (some bm)):=Rb.dC.cell 0;have L1:∀q,(Instr.lookup 94 (.map (some bm)) (.string (V.B i).sym) false).run Tryz.prog (wb.drewN q)=.ok (PP (V.bk i)) (wb.drewN q):=fun q=>Rb.Nu hi hlen q
 have Ce:∀x,w.heap.size<=x->¬(x=bv\/V.lm.F x):=by
  rintro x hx (e | e)
  ·omega
  ·have:=(ae HR).aP.aP.lt e;omega
 have hrb:=kb.aF hra (Ce _ (Nat.le_refl _));have yM:∀x,l9.F x->V.lm.F x\/w.heap.size<=x:=fun x h=>(sW x h).imp_right (fun h=>Nat.le_trans ka.size h)
 have MW:aj (fun x=>x=bv\/V.lm.F x) w wb:=ka.bI.trans kb;have Zc:=au (fun q=>qJ (V.bk i) (V.B i) V.om (fun x=>∃id,V.aW id=some x) t k (wb.drewN q) ((Rb.aB ((aj.refl aJ wb).drewN q)).tu hi) t2 hk (by rw[ae HKB];exact ae HSd));rw[ae HKB]at Zc;have HAm:=au (fun (W:World) (m:Mk W (V.bk i) ((V.B i).leave V.om t k) V.om (fun x=>∃id,V.aW id=some x))=>Iy (V.bk i) b ((V.B i).leave V.om t k) V.om _ af aK W m ⟨id,ae HN⟩);have rZ:Hid (∀q w2 w3 uN cp2 oP cp3,Mk w2 (V.bk i) ((V.B i).leave V.om t k) V.om (fun x=>∃id,V.aW id=some x)->aj (fun x=>x=V.bk i\/dG (V.B i) t x) (wb.drewN q) w2->Mk w3 (V.bk i) ((V.B i).leave V.om t k) (aQ V.om b (dV (V.om b) af aK)) (fun x=>∃id,V.aW id=some x)->aj (fun x=>x=b) w2 w3->jo w2 (V.bk i) b (wb.drewN q).heap.size uN cp2->jS w3 b (V.om b) w2.heap.size oP cp3 ->
  CT 53 #[PP bv,.slice (some ⟨w3.heap.size,0,none⟩) 2 2] (w3.alloc (.cells #[.func uN #[] cp2,.func oP #[] cp3] 1)) fun e w'=>e=.returned (.tuple #[]) /\
   Mk w' (V.bk i) ((V.B i).leave V.om t k) (aQ V.om b (dV (V.om b) af aK)) (fun x=>∃id,V.aW id=some x)/\∃lZ,bG w' bv bm bo (V.lg.dI b (V.om b)) lZ/\(∀x,lZ.F x->V.lm.F x\/w.heap.size<=x)/\aj (fun x=>x=bv\/V.lm.F x\/x=V.bk i\/x=b\/dG (V.B i) t x) w w'/\aA w' w.heap.size lX 87/\∃uI,iw w' bv bk w.heap.size false (V.lm.ac.map Prod.snd) (V.lg.dI b (V.om b)).nt V.lm.tb lZ uI):=by
  intro q w2 w3 uN cp2 oP cp3 m2 k2 m3 k3 f2 f3;have h2:=(hLb.aB ((aj.refl aJ wb).drewN q)).jF k2 (fun x h=>((Rb.aB ((aj.refl aJ wb).drewN q)).tu hi).gK (by
   rcases h with h | h
   ·exact .inl h
   ·exact .inr (.inr ⟨t,t2,h⟩)))
  have h3:=h2.jF k3 (fun x h=>by subst h;exact m2.gK (.inr (.inl ⟨id,ae HN⟩)));have hr2:=k2.aF (hrb.drewN q) (by
   rintro (h | h)
   ·omega
   ·have:=((ae HR).tu hi).Fb t2 h;omega)
  have hr3:=k3.aF hr2 (fun h=>by omega);have hd:aj aJ wb (wb.drewN q):=(aj.refl aJ wb).drewN q;have mb:=(Rb.aB hd).tu hi;have cb:iw wb bv bk w.heap.size false (V.lm.ac.map Prod.snd) V.lg.begun.nt V.lm.tb l9 []:=iw.begun htb hac;have o2:nP (wb.drewN q) w.heap.size false (fun x=>x=V.bk i\/dG (V.B i) t x):=uo mb t2 (ae acF t t2);have o3:nP w2 w.heap.size false (fun x=>x=b):=jL m2 ⟨id,ae HN⟩;have c3:=((cb.aB hd).aC k2 o2).aC k3 o3;have szb:=MW.size;have i2:bU w2 bv bk w.heap.size (.left b) (.func uN #[] cp2):=⟨_,_,rfl,by
   show jo w2 (bk b) b _ uN cp2;have e:bk b=V.bk i:=by rw[<-ae HKB];exact hbk t t2 k hk
   rw[e];exact f2.mono (by have:=hd.size;omega)⟩
  have i2':=i2.aC (q:=false) (fun h=>by cases h) k3 o3;have i3:bU w3 bv bk w.heap.size (.gp b (V.om b)) (.func oP #[] cp3):=⟨_,_,rfl,f3.mono (by have:=hd.size;have:=k2.size;omega)⟩;refine (wJ bv bm bo _ l9 (.left b) (.gp b (V.om b)) uN oP cp2 cp3 w3 bk w.heap.size false _ _ _ h3 c3 (fun h=>by cases h) (fun h=>by cases h) i2' i3 (by show 0<V.lg.na+1;omega) (by show V.lg.na+1<=3000000;omega) (by show 0+2<1000000000;omega)).mono ?_;rintro e w' ⟨rfl,bM,a1,a2,a3',-,a5⟩;have a3:aj (fun x=>l9.F x) w3 w':=a3'.mono (fun b h=>DR h);have Ea:aj (fun x=>x=bv\/V.lm.F x\/x=V.bk i\/x=b\/dG (V.B i) t x) w w3:=((MW.mono (fun x h=>h.imp_right .inl)).drewN q).trans ((k2.mono (fun x h=>by rcases h with h | h;exact lN h;exact QF h)).trans (k3.mono (fun x h=>jZ h)));refine⟨rfl,m3.jw h3 (a3.mono (fun _ h=>.inr h)),bM,a1,fun x hx=>?_,Ea.from (a3.mono (fun x h=>(yM x h).imp_left (fun h=>.inr (.inl h)))),a3.aF hr3 (h3.aP.ne hr3 (by decide) (by decide) (by decide)),_,a5⟩;rcases a2 x hx with h | h
  ·exact yM x h
  ·exact .inr (Nat.le_trans Ea.size h)
 clear hob hnb Rb hLb sW kb htb hac nY RP HSd Ce hrb yM MW ka hra HW;have e1:(af == (V.om b).af)=false\/((af == (V.om b).af)=true/\decide (aK<=(V.om b).aO)=false):=by
  have:=ae HKP;cases h1:(af == (V.om b).af)
  ·exact .inl rfl
  ·rw[h1]at this;exact .inr ⟨rfl,by simpa using this⟩
 rcases e1 with e1 | ⟨e1,e2⟩
 all_goals
  go_wp2;go_quiet (fail);go_wp2_with fail;refine (ae Zc _).mono ?_;rintro e w2 ⟨uN,cp2,rfl,f2,m2,k2⟩;go_wp2_with fail;refine (ae HAm w2 m2).mono ?_;rintro e w3 ⟨oP,cp3,rfl,f3,m3,k3⟩;go_wp2_with fail;refine (ae rZ _ w2 w3 uN cp2 oP cp3 m2 k2 m3 k3 f2 f3).mono ?_;rintro e w4 ⟨rfl,m4,lZ,hl4,hf4,Gh,hr4,cl4,cu4⟩;obtain⟨HC4,HM4,HL4,HR4⟩:=pJ (ae aaS w4 lZ cl4 Gh.size cu4 m4 hl4) m4 hl4 hr4;clear m2 k2 m3 k3 m4 hl4 hr4 cu4 f2 f3;go_wp2_with fail;refine (ae HC4).mono ?_;rintro e w5 ⟨v,rfl,ZZ⟩;obtain⟨f,r,c,a,n,hrep⟩:=JX ((⟨(V.B i).leave V.om t k,aQ V.om b (dV (V.om b) af aK),V.lg.dI b (V.om b)⟩:MS).om b) (aH b (mF b s ⟨(V.B i).leave V.om t k,aQ V.om b (dV (V.om b) af aK),V.lg.dI b (V.om b)⟩) b) (MS.tr ⟨(V.B i).leave V.om t k,aQ V.om b (dV (V.om b) af aK),V.lg.dI b (V.om b)⟩) (mF b s ⟨(V.B i).leave V.om t k,aQ V.om b (dV (V.om b) af aK),V.lg.dI b (V.om b)⟩).tr;have hv5:v=.agg #[II f,II r,II c,II a,II n]:=by rw[ZZ.1];exact hrep
  have Jb:aA w5 w.heap.size lX 87:=by
   obtain⟨_,g,cap',bM,_,_,_,k5,_⟩:=ZZ;refine k5.aF (ae HR4) ?_;have hbt:=ae HR4;rintro (h | h | h | h | h | h)
   ·omega
   ·exact (ae HL4).aP.ne hbt (by decide) (by decide) (by decide) (by decide) (by decide) h
   ·omega
   ·omega
   ·rcases h with h | ⟨l,hl,h⟩
    ·exact ((ae HM4).aY.side s hs).ne hbt (by decide) h
    ·exact aA.ne hbt (((ae HM4).aY.side s hs).bz hl) (by decide) h
   ·rcases h with h | ⟨l,hl,h⟩
    ·exact ((ae HM4).aY.side t t2).ne hbt (by decide) h
    ·exact aA.ne hbt (((ae HM4).aY.side t t2).bz hl) (by decide) h
  have HP:=au ZZ;clear ZZ hrep;rw[hv5]at HP;rw[hv5];obtain⟨r0,r1,r2,r3,r4⟩:=Jb.c5;have q0:=Jb.frozen 0;have q1:=Jb.frozen 1;have q2:=Jb.frozen 2;have q3:=Jb.frozen 3;have q4:=Jb.frozen 4;clear hv5;go_wp2;refine bodyPost_ret (O6 _ w.heap.size _ f r c a n 0 rfl rfl ?_) rfl ⟨_,w4,lZ,rfl,Gh,hf4,w5,ae HP,Jb,?_⟩
  ·exact ((((Jb.set 0 _).set 1 _).set 2 _).set 3 _).set 4 _
  ·exact (((((aj.refl (fun x=>x=w.heap.size) w5).setCell (p:=⟨w.heap.size,0,none⟩) (.inl rfl) _).setCell (p:=⟨w.heap.size,1,none⟩) (.inl rfl) _).setCell (p:=⟨w.heap.size,2,none⟩) (.inl rfl) _).setCell (p:=⟨w.heap.size,3,none⟩) (.inl rfl) _).setCell (p:=⟨w.heap.size,4,none⟩) (.inl rfl) _
def RD(bv bm bo i s t:Nat)(V:aS)(o:iT)(bk:Nat->Nat)(w:World)(v:Value)(w':World):Prop :=
 ∃b g cap' bM,w.heap.size<=b/\v=.tuple #[lG (aN o) ((V.enter i b s t g cap' o bM).om b) V.tr (V.enter i b s t g cap' o bM).tr,II 0]/\dS w' bv bm bo (V.enter i b s t g cap' o bM) /\
  aj (dO bv bm bo V) w w'/\(∀x,dO bv bm bo (V.enter i b s t g cap' o bM) x->dO bv bm bo V x\/w.heap.size<=x)/\(ig ((V.B i).sl t)=some g\/w.heap.size<=g) /\
  ∃ext cl,iw w' bv bk w.heap.size false (V.lm.ac.map Prod.snd) (V.enter i b s t g cap' o bM).lg.nt (V.lm.tb++ext) bM cl/\(dB ((mF b s ⟨V.B i,aQ V.om b (aN o),V.lg.bf o.id⟩).om b)=true->∀c∈cl,∀x,yA c x->x≠g)
theorem Xd(bv bm bo i s t:Nat)(V:aS)(o:iT)(w:World)(bk:Nat->Nat)(hbk:∀y,y<2->∀l,l<(V.B i).n y->bk ((V.B i).h y l)=V.bk i)(acY:∀x,w.heap.size<=x->bk x=V.bk i)(R:dS w bv bm bo V)(hT:kP w)(hi:i<V.nb)(dR:(V.B i).sym=o.sym)(hlen1:o.sym.size<=100)(bOw:iI o.aG)(bKd:iI o.kind)(bPr:iI o.af)
 (h1:dX o.id=true) (h2:V.aW o.id=none) (h6:dX o.aK=true) (h8:V.no<200) (hrf:∀W,dS W bv bm bo V->CT 111 #[PP bv,o.val] W fun e w'=>e=.returned (II 0)/\aj aJ W w')
 (hs:s<2) (ht:t=1-s) (hside:o.side=(t:Int)) (hinv:∀k,k<(V.B i).n s->(V.om ((V.B i).h s k)).side=(s:Int)/\0<(V.om ((V.B i).h s k)).aO/\(V.om ((V.B i).h s k)).aO<=1000000000000000) (hcnt:(V.B i).n t<=V.no) (hcs:(V.B i).n s<=V.no) (hl1:V.lg.tp.length+300<1000000000) (hl2:V.lg.tr.length+300<1000000000) (hna:V.lg.ud+V.lg.na<3000000) (hpl:Hid (V.lg.pl=oN o.id o.aG o.sym o.side o.kind o.af o.aK)) :
 CT 64 #[PP bv,o.val] w fun e w'=>∃v,e=.returned v/\RD bv bm bo i s t V o bk w v w':=by
 have hwf:(Lit.int .i64 o.id).wf=true:=by
  simp[dX]at h1;exact WalkArith.wf_i64 (by omega)
 have OH:1<=o.aK/\o.aK<=1000000:=by simpa [dX] using h6
 have hlen:o.sym.size<=maxLen:=by unfold maxLen;omega
 have bId:iI o.id:=oQ (by simp[dX]at h1;omega);have bSd:iI o.side:=oQ (by rw[hside];omega);have bQt:iI o.aK:=oQ (by omega);obtain⟨HSz,HLE⟩:=dE (IX o.id o.aG o.sym o.side o.kind o.af o.aK hlen1 bId bOw bSd bKd bPr bQt) (fun W h=>Nl o.id o.aG o.sym o.side o.kind o.af o.aK W h hlen1 bId bOw bSd bKd bPr bQt);clear bId bOw bSd bKd bPr bQt hlen1;generalize oN o.id o.aG o.sym o.side o.kind o.af o.aK=ln at HSz HLE hpl;obtain⟨w1,hw1⟩:=kL (((w.alloc (.cells #[PP bv] 35)).alloc (.cells (DW o) 52)).alloc (.cells lX 87));have k1:aj aJ w w1:=by rw[hw1];exact (((aj.refl aJ w).alloc _).alloc _).alloc _
 have abl:aA w1 w.heap.size #[PP bv] 35:=by rw[hw1];exact ((aA.new w _ _).alloc _).alloc _
 have hx1:aA w1 (w.heap.size+1) (DW o) 52:=by rw[hw1];exact (aA.sQ w _ _ _).alloc _
 have hr1:aA w1 (w.heap.size+2) lX 87:=by rw[hw1];exact aA.UK w _ _ _ _
 have R1:=R.aB k1;have abG:=hrf w1 R1;obtain⟨fB,mB,qh,uM⟩:=R.iM;have hlb:fB (sl o.sym)=some (V.bk i):=by rw[<-dR];exact qh i hi
 have hlk:∀w2,aj aJ w w2->∀q,(Instr.lookup 94 (.map (some bm)) (.string o.sym) false).run Tryz.prog (w2.drewN q)=.ok (PP (V.bk i)) (w2.drewN q):=fun w2 k2 q=>by
  rw[(mB.aC (k2.drewN q) aU).look zV Tryz.underlying94 (qA _) (WideMaps.keyOf_string_mk Tryz.underlying9 hlen)];show _=Result.ok (ji (some (V.bk i))) _;rw[<-hlb];rfl
 have hsl:aA w1 (V.bk i) (V.B i).cells 158:=(R1.aY i hi).aF;obtain⟨HW1,HX,HL,hfree⟩:=pJ hw1 abG hlk h2;clear hw1 abG hlk h1 h2 h6 hrf;obtain⟨HR,HSY,HSD,HT⟩:=pJ R dR hside ht;clear R R1 mB qh uM hlb dR hside ht;simp only[iT.val];go_enter Tryz.func64,Tryz.ntmps64;have aa1:Hid (w1=((w.alloc (.cells #[PP bv] 35)).alloc (.cells #[II o.id,II o.aG,.string o.sym,II o.side,II o.kind,II o.af,II o.aK] 52)).alloc (.cells #[II 0,II 0,II 0,II 0,II 0] 87)):=HW1;have ls2:w.heap.size<w.heap.size+1+1:=by omega
 go_wp2_with fail;rw[<-ae aa1];refine (ae HX).mono ?_;rintro e w2 ⟨rfl,k2⟩;have Wl:=k1.trans k2;have hbx2:=k2.aF abl aU;have hx2:=k2.aF hx1 aU;have hr2:=k2.aF hr1 aU;have R2:=(ae HR).aB Wl;have L1:=ae HL w2 Wl;have v0:CC w2 bv 0 (.map (some bm)):=R2.dC.cell 0;have xb:CC w2 w.heap.size 0 (PP bv):=hbx2.cell 0;have x2:CC w2 (w.heap.size+1) 2 (.string o.sym):=hx2.cell 2;have x0:CC w2 (w.heap.size+1) 0 (II o.id):=hx2.cell 0;have x1:CC w2 (w.heap.size+1) 1 (II o.aG):=hx2.cell 1;have x3:CC w2 (w.heap.size+1) 3 (II o.side):=hx2.cell 3;have x4:CC w2 (w.heap.size+1) 4 (II o.kind):=hx2.cell 4;have x5:CC w2 (w.heap.size+1) 5 (II o.af):=hx2.cell 5;have x6:CC w2 (w.heap.size+1) 6 (II o.aK):=hx2.cell 6;have f2:=hx2.frozen 2;have y0:CC w2 (V.bk i) 0 (.string o.sym):=((R2.aY i hi).aF.cell 0).trans (by rw[<-ae HSY];rfl);clear k1 k2 hx1 hr1 abl HW1 aa1 HX HL hsl ls2;go_wp2;go_quiet (fail);obtain⟨w3,hw3⟩:=kL ((w2.drewN nq).setCell ⟨w.heap.size+1,2,none⟩ (.string o.sym));have k3:aj (fun x=>x=w.heap.size+1) w2 w3:=by rw[hw3];exact ((aj.refl (fun x=>x=w.heap.size+1) w2).drewN _).setCell (p:=⟨w.heap.size+1,2,none⟩) (.inl rfl) _
 have hx3:aA w3 (w.heap.size+1) (DW o) 52:=by rw[hw3];exact (hx2.drewN _).set 2 _
 have HW3:=au hw3;clear hw3;go_wp2_with fail;rw[<-ae HW3];refine (Gw o w3).mono ?_;rintro e w4 ⟨b,rfl,hb,TP,k4⟩;clear x0 x1 x2 x3 x4 x5 x6 xb f2 y0 v0 L1;have YM:aj aJ w w4:=(Wl.from (k3.mono (fun x h=>.inr (by omega)))).trans k4;have ZO:=k4.aF (k3.aF hbx2 (fun h=>by omega)) aU;have hx4:=k4.aF hx3 aU;have hr4:=k4.aF (k3.aF hr2 (fun h=>by omega)) aU;have R4:=(ae HR).aB YM;have hb0:w.heap.size<=b:=by have:=Wl.size;have:=k3.size;omega
 have nY:=au (oK bv bm bo V.lg V.lm ln w4 R4.aP hna (ae HSz).1 (ae HSz).2 (ae hpl));have HLn:=au (ae HLE w4 (hT.aB YM));have xb4:CC w4 w.heap.size 0 (PP bv):=ZO.cell 0;obtain⟨y0,y1,y2,y3,y4,y5,y6⟩:=hx4.c7;have Ce:∀x,w.heap.size<=x->¬(x=bv\/V.lm.F x):=by
  rintro x hx (e | e)
  ·have:=(ae HR).dC.lt;omega
  ·have:=(ae HR).aP.aP.lt e;omega
 have ru:=au Ce;clear Ce hbx2 hx2 hr2 hx3 k3 k4 HW3 HLE;go_wp2;go_region_held3 (fun w'=>w'.cell? ⟨w.heap.size,0,none⟩=some (PP bv)/\w'.cell? ⟨w.heap.size+1,0,none⟩=some (II o.id)/\w'.cell? ⟨w.heap.size+1,1,none⟩=some (II o.aG)/\w'.cell? ⟨w.heap.size+1,2,none⟩=some (.string o.sym)/\w'.cell? ⟨w.heap.size+1,3,none⟩=some (II o.side)/\w'.cell? ⟨w.heap.size+1,4,none⟩=some (II o.kind)/\w'.cell? ⟨w.heap.size+1,5,none⟩=some (II o.af)/\w'.cell? ⟨w.heap.size+1,6,none⟩=some (II o.aK)) (go_keep)
  (first
    | (go_at_call 113;refine (ae HLn _ ?cc).mono ?_;(case cc=>repeat (first | exact aj.refl _ _ | refine aj.drew ?_));rintro e wl ⟨rfl,hk⟩;have z0:=hk.cell (p:=⟨w.heap.size,0,none⟩) xb4 aU;have z1:=hk.cell (p:=⟨w.heap.size+1,0,none⟩) y0 aU;have z2:=hk.cell (p:=⟨w.heap.size+1,1,none⟩) y1 aU;have z3:=hk.cell (p:=⟨w.heap.size+1,2,none⟩) y2 aU;have z4:=hk.cell (p:=⟨w.heap.size+1,3,none⟩) y3 aU;have z5:=hk.cell (p:=⟨w.heap.size+1,4,none⟩) y4 aU;have z6:=hk.cell (p:=⟨w.heap.size+1,5,none⟩) y5 aU;have z7:=hk.cell (p:=⟨w.heap.size+1,6,none⟩) y6 aU;have Ij:=au hk;clear hk)
    | (go_at_call 51;refine (ae nY _ ?cc).mono ?_;(case cc=>repeat (first | exact ae Ij | refine aj.drew ?_));rintro e wb ⟨rfl,l9,hLb,sW,kb,htb,-,hac⟩;have Ym:=au htb;have Ye:=au hac;clear htb hac;have z0:=kb.cell (p:=⟨w.heap.size,0,none⟩) xb4 (ae ru _ (Nat.le_refl _));have z1:=kb.cell (p:=⟨w.heap.size+1,0,none⟩) y0 (ae ru _ (Nat.le_succ _));have z2:=kb.cell (p:=⟨w.heap.size+1,1,none⟩) y1 (ae ru _ (Nat.le_succ _));have z3:=kb.cell (p:=⟨w.heap.size+1,2,none⟩) y2 (ae ru _ (Nat.le_succ _));have z4:=kb.cell (p:=⟨w.heap.size+1,3,none⟩) y3 (ae ru _ (Nat.le_succ _));have z5:=kb.cell (p:=⟨w.heap.size+1,4,none⟩) y4 (ae ru _ (Nat.le_succ _));have z6:=kb.cell (p:=⟨w.heap.size+1,5,none⟩) y5 (ae ru _ (Nat.le_succ _));have z7:=kb.cell (p:=⟨w.heap.size+1,6,none⟩) y6 (ae ru _ (Nat.le_succ _));have LH:=au hLb;have Ih:=au sW;have Fz:=au kb;clear hLb sW kb))
 rename_i TB;clear TB z0 z1 z2 z3 z4 z5 z6 z7 y0 y1 y2 y3 y4 y5 y6 HLn Ij;have hLb:=ae LH;have sW:=ae Ih;have kb:=ae Fz;clear LH Ih Fz;clear xb4;have Rb:=R4.jM hLb kb;have Xi:=kb.aF ZO (ae ru _ (Nat.le_refl _));have hxb:=kb.aF hx4 (ae ru _ (by omega));have hrb:=kb.aF hr4 (ae ru _ (by omega));have hob:df wb b (aN o) 0:=kb.aF TP (ae ru _ hb0);have MW:aj (fun x=>x=bv\/V.lm.F x) w wb:=YM.bI.trans kb;obtain⟨fO,mOb,fOb⟩:=Rb.fH;simp only at mOb fOb;obtain⟨wm,hU,mOm,km⟩:=(mOb.aC ((aj.refl aJ wb).drew) aU).put (x:=b) zU Tryz.underlying95 (by unfold maxLen;omega) (keyOf_int_mk Tryz.underlying3 hwf) trivial (by rw[fOb];exact ae hfree);have v1:CC wb bv 1 (.map (some bo)):=Rb.dC.cell 1;have xb5:CC wb w.heap.size 0 (PP bv):=Xi.cell 0;have x0:CC wb (w.heap.size+1) 0 (II o.id):=hxb.cell 0;obtain⟨HMm,Pz,Py,HR4⟩:=pJ mOm kb YM R4;clear mOm kb YM R4 ZO hx4 hr4 TP nY;go_wp2;go_region;clear hU v1 x0 xb5;have bnm:∀{b':Nat} {c:Array Value} {t':TypeId},aA wb b' c t'->aA wm b' c t':=fun h=>km.aF h.drew (Ne.symm (mOb.ne h))
 have hvm:bG wm bv bm bo V.lg.begun l9:=(hLb.aB (aj.refl aJ wb).drew).aC km (Ne.symm (mOb.ne hLb.dC)) (fun y hy e=>by
  obtain⟨c,t',hc,_⟩:=hLb.aP.gK hy;exact mOb.ne hc e.symm)
 have ZP:=bnm Xi;have xbm:CC wm w.heap.size 0 (PP bv):=ZP.cell 0;have hxm:=bnm hxb;have cm:iw wm bv bk w.heap.size false (V.lm.ac.map Prod.snd) V.lg.begun.nt V.lm.tb l9 []:=iw.begun (ae Ym) (ae Ye);have im:bU wm bv bk w.heap.size (.entered o.id) (.func (.func 114) #[] #[PP w.heap.size,PP (w.heap.size+1)]):=⟨_,_,rfl,rfl,w.heap.size,_,Nat.le_refl _,rfl,ZP,hxm,rfl⟩;have rZ:=au (nJ bv bm bo V.lg.begun l9 (.entered o.id) (.func 114) #[PP w.heap.size,PP (w.heap.size+1)] wm bk w.heap.size false _ _ _ hvm cm (fun h=>by cases h) im (by show 0<V.lg.na+1;omega) (by show V.lg.na+1<=3000000;omega) (by show 0+1<1000000000;omega));go_wp2_with fail;refine (ae rZ).mono ?_;rintro e w5 ⟨rfl,vw,hv5,hFn,kn',-,c5⟩;have kn:aj (fun x=>l9.F x) wm w5:=kn'.mono (fun b h=>DR h);clear xbm kn' cm im hxm;change iw w5 bv bk w.heap.size false (V.lm.ac.map Prod.snd) (V.lg.bf o.id).nt V.lm.tb vw _ at c5;change bG w5 bv bm bo (V.lg.bf o.id) vw at hv5;have bne:∀{b':Nat} {c:Array Value} {t':TypeId},aA wb b' c t'->t'≠103->t'≠62->t'≠105->t'≠109->t'≠1/\t'≠5->aA w5 b' c t':=fun h h1 h2 h3 h4 h5=>kn.aF (bnm h) (hvm.aP.ne (bnm h) h1 h2 h3 h4 h5)
 have YI:df w5 b (aN o) 0:=bne hob (by decide) (by decide) (by decide) (by decide) (by decide);have Jb:=bne hrb (by decide) (by decide) (by decide) (by decide) (by decide);have abm:=bne Xi (by decide) (by decide) (by decide) (by decide) (by decide);have hFm:∀x,l9.F x->V.lm.F x\/w.heap.size<=x:=fun x hx=>(sW x hx).imp_right (fun h=>Nat.le_trans (ae Py).size h)
 have kkm:aj (fun x=>x=bo\/x=bv\/V.lm.F x) w wm:=(MW.mono (fun x h=>.inr h)).drew.trans (km.mono (fun x h=>.inl h));have Qd:∀x,vw.F x->V.lm.F x\/w.heap.size<=x:=fun x hx=>by
  rcases hFn x hx with h | h
  ·exact hFm x h
  ·exact .inr (Nat.le_trans kkm.size h)
 have Wn:aj (fun x=>x=bo\/x=bv\/V.lm.F x) w w5:=kkm.from (kn.mono (fun x h=>(hFm x h).imp_left (fun h=>.inr (.inr h))));have F8:∀x,x<2->∀y,dG (V.B i) x y->y<w.heap.size:=fun x hx y h=>by
  rcases h with h | ⟨l,hl,rfl⟩
  ·exact (((ae HR).aY i hi).side x hx).lt h
  ·exact ((((ae HR).aY i hi).side x hx).bz hl).lt
 have kb5:aj (fun x=>x=bo\/l9.F x) wb w5:=((aj.refl (fun x=>x=bo\/l9.F x) wb).drew.trans (km.mono (fun x h=>.inl h))).trans (kn.mono (fun x h=>.inr h));have ZY:∀x c t,aA wb x c t->(t=158\/t=114\/t=116)->¬(x=bo\/l9.F x):=by
  rintro x c t' hx ht' (e | e)
  ·exact mOb.ne hx e.symm
  ·exact hLb.aP.ne hx (by rcases ht' with rfl | rfl | rfl <;> decide) (by rcases ht' with rfl | rfl | rfl <;> decide) (by rcases ht' with rfl | rfl | rfl <;> decide) (by rcases ht' with rfl | rfl | rfl <;> decide) (by rcases ht' with rfl | rfl | rfl <;> decide) e
 have Bq:cO w5 (V.bk i) (V.B i) V.om:=(Rb.aY i hi).jF kb5 ZY;have MK:cO w5 (V.bk i) (V.B i) (aQ V.om b (aN o)):=by
  refine⟨Bq.aF,fun x hx=>(Bq.side x hx).om (fun l hl=>ah _ _ (fun e=>?_)),Bq.apart,Bq.vZ⟩;have:=F8 x hx _ (.inr ⟨l,hl,rfl⟩);omega
 have hmk5:Mk w5 (V.bk i) (V.B i) (aQ V.om b (aN o)) (fun x=>x=b\/∃id,V.aW id=some x):=by
  refine⟨MK,fun x hx=>?_,fun x hx l hl=>.inr ((ae HR).mem i hi x hx l hl)⟩;rcases hx with rfl | ⟨id,hx⟩
  ·rw[ai];exact⟨0,YI⟩
  ·obtain⟨_,ix,h⟩:=(ae HR).bz id x hx;have:=h.lt;obtain⟨_,ix4,h4⟩:=Rb.bz id x hx;rw[ah _ _ (by omega)];exact⟨ix4,kb5.aF h4 (ZY _ _ _ h4 (.inr (.inr rfl)))⟩
 have mO5:kG w5 3 bo (Ed fO (.int .i64 o.id) b) (V.no+1):=(ae HMm).aC kn (fun e=>by
  obtain⟨c,t',hc,_⟩:=hvm.aP.gK e;exact (ae HMm).ne hc rfl)
 have HM5:=au mO5;have xb6:CC w5 w.heap.size 0 (PP bv):=abm.cell 0;clear mO5 rZ HMm Pz Py HR4 kb5 ZY Bq bnm Xi hxb hrb hob ZP hvm kkm MW kn km Rb hLb sW hFn;have hT:=ae HT;have iv5:sV b s ⟨V.B i,aQ V.om b (aN o),V.lg.bf o.id⟩:=by
  refine⟨fun l hl=>?_,(MK.side s hs).inj,?_,?_,?_⟩
  ·have hlt:=F8 s hs _ (.inr ⟨l,hl,rfl⟩);simp only;rw[ah _ _ (by omega)];exact⟨(hinv l hl).1,(hinv l hl).2.1,(hinv l hl).2.2,by omega⟩
  ·simp only[ai,aN];omega
  ·simp only[ai,aN];omega
  ·simp only[ai,aN];rw[ae HSD];omega
 have YD:=SL bv (V.bk i) b s t bm bo ⟨V.B i,aQ V.om b (aN o),V.lg.bf o.id⟩ vw (fun x=>x=b\/∃id,V.aW id=some x) w5 bk w.heap.size _ _ _ c5 Wn.size (fun l hl=>hbk s hs l hl) (acY b hb0) (fun y hy g hg=>F8 y hy g (.inl hg)) hv5 hmk5 hs hT (.inl rfl) iv5 (fun x hx l hl=>by
  have:=F8 x hx _ (.inr ⟨l,hl,rfl⟩);simp only;omega) (by simp only;omega) 999999999 (by omega) (by unfold mu;simp only[Lg.bf,Lg.begun,Lg.aX];split <;> omega) (by unfold mu;simp only[Lg.bf,Lg.begun,Lg.aX];split <;> omega) (by simp only[Lg.bf,Lg.begun,Lg.aX];omega) (by simp only[Lg.bf,Lg.begun,Lg.aX];omega) (by unfold mu;simp only[Lg.bf,Lg.begun,Lg.aX,List.length_append,List.length_cons,List.length_nil];split <;> omega)
 have fin:∀v6 w6 w7,aA w6 (w.heap.size+2) lX 87->Au bv (V.bk i) b s t bm bo ⟨V.B i,aQ V.om b (aN o),V.lg.bf o.id⟩ vw (fun x=>x=b\/∃id,V.aW id=some x) w5 bk w.heap.size (V.lm.ac.map Prod.snd) V.lm.tb v6 w6->aj (fun x=>x=w.heap.size+2) w6 w7->RD bv bm bo i s t V o bk w (.tuple #[v6,II 0]) w7:=by
  rintro v6 w6 w7 hz6 ⟨hv6,g,cap',bM,hm6,hb6,hf6,k6,Rq,ext,cl6,cu6,ac0⟩ k7;have hR:dS w6 bv bm bo (V.enter i b s t g cap' o bM):=by
   refine (ae HR).enter hi hs hT h8 (ae hfree) hb0 YI hv5 Qd Wn ⟨_,ae HM5,fun id=>?_⟩ iv5 rfl hm6 hb6 k6 Rq;by_cases e:id=o.id
   ·rw[if_pos e,e,EX (kl:=.int .i64 o.id) trivial]
   ·rw[if_neg e,Ci (kl:=.int .i64 o.id) (k:=.int .i64 id) trivial (fun h=>e (by simpa using h)),fOb]
  have sdF:∀x,x<2->∀y,dG (V.B i) x y->dO bv bm bo V y:=fun x hx y h=>jZ ⟨i,hi,.inr ⟨x,hx,h⟩⟩
  have kF:aj (dO bv bm bo V) w w6:=by
   refine (Wn.mono (S':=dO bv bm bo V) (fun x h=>by rcases h with h | h | h;exact lN h;exact .inl h;exact vU h)).from (k6.mono (fun x h=>?_));rcases h with h | h | h | h | h | h
   ·exact .inl (.inl h)
   ·exact (Qd x h).imp_left (fun h=>vU h)
   ·exact .inl (jZ ⟨i,hi,.inl h⟩)
   ·right;omega
   ·exact .inl (sdF s hs x h)
   ·exact .inl (sdF t (by omega) x h)
  have abz:¬dO bv bm bo (V.enter i b s t g cap' o bM) (w.heap.size+2):=hR.kU (c:=lX) (t:=87) (k6.aF Jb (by
   rintro (h | h | h | h | h | h)
   ·have:=(ae HR).dC.lt;omega
   ·exact hv5.aP.ne Jb (by decide) (by decide) (by decide) (by decide) (by decide) h
   ·have:=((ae HR).aY i hi).aF.lt;omega
   ·exact aA.ne YI Jb (by decide) h.symm
   ·have:=F8 s hs _ h;omega
   ·have:=F8 t (by omega) _ h;omega)) (by decide) (by decide) (by decide) (by decide) (by decide) (by decide) (by decide)
  have hR7:dS w7 bv bm bo (V.enter i b s t g cap' o bM):=by
   obtain⟨gB,nB,g1,g2⟩:=hR.iM;obtain⟨gO,nO,g3⟩:=hR.fH;have nf:∀x,dO bv bm bo (V.enter i b s t g cap' o bM) x->¬x=w.heap.size+2:=fun x h e=>abz (e▸h)
   exact⟨hR.aP.aC k7 (nf _ (.inl rfl)) (fun y hy=>nf y (vU hy)),⟨gB,nB.aC k7 (nf _ (.inr (.inl rfl))),g1,g2⟩,⟨gO,nO.aC k7 (nf _ (lN rfl)),g3⟩,hR.Ia,fun j hj=>(hR.aY j hj).aC k7 (fun x hx=>nf x (by
    rcases hx with h | ⟨y,hy,h⟩
    ·exact jZ ⟨j,hj,.inl h⟩
    ·exact jZ ⟨j,hj,.inr ⟨y,hy,h⟩⟩)),fun id x h=>⟨(hR.bz id x h).1,(hR.bz id x h).2.elim fun ix ho=>⟨ix,k7.aF ho (nf x (qm ⟨id,h⟩))⟩⟩,hR.mem,hR.sS,hR.nM,hR.gV⟩
  refine⟨b,g,cap',bM,hb0,by rw[hv6];simp only[ai];rfl,hR7,kF.from (k7.mono (fun x h=>.inr (by omega))),fun x hx=>?_,?_,ext,cl6,cu6.aC k7 (nP.gK (fun x hx=>by subst hx;exact⟨_,87,hz6,by unfold o7;decide⟩)),ac0⟩
  ·rcases hx with h | h | h | ⟨j,hj,h⟩ | ⟨id,h⟩ | h
   ·exact .inl (.inl h)
   ·exact .inl (.inr (.inl h))
   ·exact .inl (lN h)
   ·rcases h with h | ⟨y,hy,h⟩
    ·exact .inl (jZ ⟨j,hj,.inl h⟩)
    ·by_cases e:j=i
     ·subst e;simp only[aS.enter,ai]at h;rcases Ba h with h | h | h
      ·left;refine jZ ⟨j,hi,.inr ⟨y,hy,?_⟩⟩;obtain⟨f1,f2,_⟩:=jy b s (mu b s ⟨V.B j,aQ V.om b (aN o),V.lg.bf o.id⟩) ⟨V.B j,aQ V.om b (aN o),V.lg.bf o.id⟩;by_cases es:y=s
       ·subst es;exact (yQ _ _ iv5).2.2.1 x h
       ·change dG (mF b s ⟨V.B j,aQ V.om b (aN o),V.lg.bf o.id⟩).B y x at h;unfold dG mF at h;rw[f2,(f1 y es).1,(f1 y es).2]at h;exact h
      ·right;omega
      ·rcases Rq with h' | h'
       ·exact .inl (sdF t (by omega) x (.inl (by rw[h];exact h')))
       ·right;have:=Wn.size;omega
     ·simp only[aS.enter,ah _ _ e]at h;exact .inl (jZ ⟨j,hj,.inr ⟨y,hy,h⟩⟩)
   ·simp only[aS.enter]at h;split at h
    ·simp at h;right;omega
    ·exact .inl (qm ⟨id,h⟩)
   ·rcases hf6 x h with h | h
    ·exact (Qd x h).imp_left (fun h=>vU h)
    ·right;have:=Wn.size;omega
  ·rcases Rq with h' | h'
   ·exact .inl h'
   ·right;have:=Wn.size;omega
 have aca:∀v6 w6,Au bv (V.bk i) b s t bm bo ⟨V.B i,aQ V.om b (aN o),V.lg.bf o.id⟩ vw (fun x=>x=b\/∃id,V.aW id=some x) w5 bk w.heap.size (V.lm.ac.map Prod.snd) V.lm.tb v6 w6->aA w6 (w.heap.size+2) lX 87:=by
  rintro v6 w6 ⟨_,g,cap',bM,_,_,_,k6,_,_⟩;refine k6.aF Jb ?_;rintro (h | h | h | h | h | h)
  ·have:=(ae HR).dC.lt;omega
  ·exact hv5.aP.ne Jb (by decide) (by decide) (by decide) (by decide) (by decide) h
  ·have:=((ae HR).aY i hi).aF.lt;omega
  ·exact aA.ne YI Jb (by decide) h.symm
  ·have:=F8 s hs _ h;omega
  ·have:=F8 t (by omega) _ h;omega
 have HQ6:=au aca;clear aca;obtain⟨HC,HF,zo⟩:=eY YD fin Jb;clear fin YD c5 iv5 hmk5 MK F8 Wn Jb hv5 YI bne HM5 hT Qd hFm abm;go_wp2_with fail;refine (ae HC).mono ?_;rintro e w6 ⟨v6,rfl,hp6⟩;obtain⟨f,r,c,a,n,hrep⟩:=JX ((⟨V.B i,aQ V.om b (aN o),V.lg.bf o.id⟩:MS).om b) (aH b (mF b s ⟨V.B i,aQ V.om b (aN o),V.lg.bf o.id⟩) b) V.tr (mF b s ⟨V.B i,aQ V.om b (aN o),V.lg.bf o.id⟩).tr;have hv6:v6=.agg #[II f,II r,II c,II a,II n]:=by rw[hp6.1];exact hrep
 have YJ:aA w6 (w.heap.size+2) lX 87:=ae HQ6 _ _ hp6;have HP:=au hp6;clear hp6 hrep;rw[hv6]at HP;rw[hv6];obtain⟨r0,r1,r2,r3,r4⟩:=YJ.c5;have q0:=YJ.frozen 0;have q1:=YJ.frozen 1;have q2:=YJ.frozen 2;have q3:=YJ.frozen 3;have q4:=YJ.frozen 4;clear hv6;go_wp2;refine bodyPost_ret (adw _ (w.heap.size+2) _ f r c a n rfl rfl ?_) rfl ⟨_,rfl,ae HF _ _ _ YJ (ae HP) ?_⟩
 ·exact ((((YJ.set 0 _).set 1 _).set 2 _).set 3 _).set 4 _
 ·exact (((((aj.refl (fun x=>x=w.heap.size+2) w6).setCell (p:=⟨w.heap.size+2,0,none⟩) (.inl rfl) _).setCell (p:=⟨w.heap.size+2,1,none⟩) (.inl rfl) _).setCell (p:=⟨w.heap.size+2,2,none⟩) (.inl rfl) _).setCell (p:=⟨w.heap.size+2,3,none⟩) (.inl rfl) _).setCell (p:=⟨w.heap.size+2,4,none⟩) (.inl rfl) _
end Go.Proofs.YtigaphnafnpfnaaGreatDoor
