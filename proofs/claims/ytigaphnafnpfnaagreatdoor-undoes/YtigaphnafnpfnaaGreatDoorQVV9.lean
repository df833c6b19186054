import Derived.Test.YtigaphnafnpfnaaGreatDoorQVV8
import Derived.Test.YtigaphnafnpfnaaGreatDoorQVX14
import Derived.Test.YtigaphnafnpfnaaGreatDoorQVX18
set_option linter.unusedVariables false
set_option linter.unusedSimpArgs false
set_option maxHeartbeats 8000000
set_option maxRecDepth 100000
namespace Go.Proofs.YtigaphnafnpfnaaGreatDoor
open Go.RowKit Go.Maps
attribute [local go_sem ↓] Go.wp_at_zero Go.wp_at_succ
def Vr(bv bm bo i b s t k:Nat)(V:aS)(yX:Lm)(af az:Int)(bk:Nat->Nat)(lw:Nat)(w:World)(v:Value)(w':World):Prop :=
 zC bv (V.bk i) b s t bm bo ⟨(V.B i).leave V.om t k,aK V.om b (dR (V.om b) af az),V.lg.dE b (V.om b)⟩ yX (fun x=>∃id,V.aV id=some x) w bk lw (V.lm.ac.map Prod.snd) V.lm.tb v w'
theorem AZ(bv t o b i:Nat)(V:aS)(id af az:Int)(w:World)(bk:Nat->Nat)(R:dL w bv t o V)(hT:qj w)(hid:(Lit.int .i64 id).wf=true)(D:V.aV id=some b)(h0:(V.om b).aH≠0)(hp:cZ af=true)(hq:cZ az=true)(g:i<V.nb)
 (hpr:af=(V.om b).af) (hle:az<=(V.om b).aH) (hna:V.lg.ud+V.lg.na<3000000) :
 CT 38 #[PP bv,II id,II af,II az] w fun e w'=>e=.returned (.tuple #[.agg #[II 0,II az,II 0,II 0,II 0],II 0]) /\
  Mk w' (V.bk i) (V.B i) (aK V.om b (dR (V.om b) af az)) (fun x=>∃id,V.aV id=some x)/\D9 bv t o V.lg V.lm bk true [.fV b (V.om b)] w w'/\aj (fun x=>x=bv\/V.lm.F x\/x=b) w w':=by
 obtain⟨d,q⟩:=gy (w.alloc (.cells bC 87));have j:aj aA w d:=by rw[q];exact (aj.refl aA w).alloc _
 have hra:au d w.heap.size bC 87:=by rw[q];exact au.new w _ _
 have r:=(R.ax j).ve hid;rw[D]at r;simp only[ja]at r;rw[q]at r;simp only[bC]at r;obtain⟨-,ix,N⟩:=R.bg id b D;have Q:CC w b 8 (II (V.om b).aH):=N.cell 8;have v1:CC w bv 1 (.map (some o)):=R.cO.cell 1;have lv:=R.cO.lt;have lo:=N.lt;have e0:((V.om b).aH == 0)=false:=by simp[h0]
 have I:decide (az<=(V.om b).aH)=true:=by simp[hle]
 have Y:Hid (d=w.alloc (.cells #[II 0,II 0,II 0,II 0,II 0] 87)):=q;have u:=rG ⟨#[114,101,112,108,97,99,101]⟩ (DX id af az) 3 d (hT.ax j) (by decide) (by decide) (by omega) (fun i g=>by
  match i,g with
  | 0,_=>exact bounds_i64 hid
  | 1,_=>exact tK (by simp[cZ]at hp;show -1000000<=af/\af<=1000000;omega)
  | 2,_=>exact tK (by simp[cZ]at hq;show -1000000<=az/\az<=1000000;omega))
 generalize iJ (DX id af az) ⟨#[114,101,112,108,97,99,101]⟩ 3=ln at u;have T:=ai (oQ bv t o V.lg V.lm ln d (R.ax j).aO hna u.1.1 u.1.2);have X:=ai u.2;have hsz:d.heap.size=w.heap.size+1:=by rw[q];simp
 have U:Hid (∀i,i<3->(d.alloc (.cells #[II id,II af,II az] 3)).cell? ⟨w.heap.size+1,i,none⟩=some (II (DX id af az i))):=by
  intro i g;rw[<-hsz]
  match i,g with
  | 0,_=>exact (au.new d _ _).cell 0
  | 1,_=>exact (au.new d _ _).cell 1
  | 2,_=>exact (au.new d _ _).cell 2
 clear u hsz;obtain⟨H,A,Zb,PE⟩:=gY R D hpr I;clear R D N h0 hle hpr q I;go_enter Tryz.func38,Tryz.ntmps38;go_wp2_with (first | (go_at_call 68;refine (bJ _ _).mono ?_;rintro e w' ⟨rfl,rfl⟩) | fail);rw[<-ae Y];refine (ae X _ ((aj.refl aA d).alloc _) _ _ (ae U)).mono ?_;rintro e wl ⟨rfl,kl⟩;have W:=ai kl;clear kl;go_wp2_with fail;refine (ae T _ (ae W)).mono ?_;rintro e n ⟨rfl,z,M,MH,v,htb,-,hac⟩;clear X W U;clear r Q v1;have s:=((ae H).ax j).kM M v;have hnb:({ V with lg:=V.lg.begun,lm:=z }:aS).aV id=some b:=ae A;obtain⟨-,ixb,O⟩:=s.bg id b hnb;have Q:CC n b 8 (II (V.om b).aH):=au.cell O 8;have o5:n.cell? ⟨b,5,none⟩=some (II af):=by rw[ae Zb];exact au.cell O 5
 have I:=ae PE;have hrb:=v.ay hra (by
  rintro (e | e)
  ·omega
  ·have:=(ae H).aO.aO.lt e;omega)
 have L:∀x,z.F x->V.lm.F x\/w.heap.size<=x:=fun x h=>(MH x h).imp_right (fun h=>Nat.le_trans j.size h)
 have J4:aj (fun x=>x=bv\/V.lm.F x\/x=b) w n:=j.aP.trans (v.mono (fun x h=>h.imp_right .inl));have HAm:=ai (Gj (V.bk i) b (V.B i) V.om (fun x=>∃id,V.aV id=some x) af az n (s.sG g) ⟨id,ae A⟩);have uS:Hid (∀c l k,Mk c (V.bk i) (V.B i) (aK V.om b (dR (V.om b) af az)) (fun x=>∃id,V.aV id=some x)->aj (fun x=>x=b) n c->jT c b (V.om b) n.heap.size l k ->
  CT 53 #[PP bv,.slice (some ⟨c.heap.size,0,none⟩) 1 1] (c.alloc (.cells #[.func l #[] k] 1)) fun e w'=>e=.returned (.tuple #[]) /\
   Mk w' (V.bk i) (V.B i) (aK V.om b (dR (V.om b) af az)) (fun x=>∃id,V.aV id=some x)/\D9 bv t o V.lg V.lm bk true [.fV b (V.om b)] w w'/\aj (fun x=>x=bv\/V.lm.F x\/x=b) w w'/\au w' w.heap.size bC 87):=by
  intro c l k G m J;have K:=M.jG m (fun x h=>by subst h;exact (s.sG g).gZ (.inr (.inl ⟨id,ae A⟩)));have hr3:=m.ay hrb (fun h=>by omega);have cb:iy n bv bk w.heap.size true (V.lm.ac.map Prod.snd) V.lg.begun.nt V.lm.tb z []:=iy.begun htb hac;have c3:=cb.aC m (jQ (s.sG g) ⟨id,ae A⟩);have i3:bH c bv bk w.heap.size (.fV b (V.om b)) (.func l #[] k):=⟨_,_,rfl,J.mono (by have:=j.size;have:=v.size;omega)⟩;refine (nV bv t o _ z (.fV b (V.om b)) l k c bk w.heap.size true _ _ _ K c3 (fun _=>rfl) i3 (by show 0<V.lg.na+1;omega) (by show V.lg.na+1<=3000000;omega) (by show 0+1<1000000000;omega)).mono ?_;rintro e w' ⟨rfl,bG,C,a2,a3',-,a5⟩;have a3:aj (fun x=>z.F x) c w':=a3'.mono (fun b h=>BA h);have Ht:=J4.trans (m.mono (fun x h=>.inr (.inr h)));refine⟨rfl,G.jw K (a3.mono (fun _ h=>.inr h)),⟨bG,C,fun x f=>?_,_,a5⟩,Ht.from (a3.mono (fun x h=>(L x h).imp_left (fun h=>.inr (.inl h)))),a3.ay hr3 (K.aO.ne hr3 (by decide) (by decide) (by decide))⟩;rcases a2 x f with h | h
  ·exact L x h
  ·exact .inr (Nat.le_trans Ht.size h)
 clear O hnb s M MH v htb hac T hrb L J4 j hra Y;go_wp2_with fail;refine (ae HAm).mono ?_;rintro e c ⟨l,k,rfl,J,G,m⟩;go_wp2_with fail;refine (ae uS c l k G m J).mono ?_;rintro e S ⟨rfl,m4,Z,J3,a⟩;obtain⟨r0,r1,r2,r3,r4⟩:=a.c5;have q0:=a.frozen 0;have q1:=a.frozen 1;have q2:=a.frozen 2;have q3:=a.frozen 3;have q4:=a.frozen 4;obtain⟨Yr,HA4,CB⟩:=fK m4 Z J3;clear G m m4 Z J3 Q o5;go_wp2;have E:aj (fun x=>x=w.heap.size) S (((((S.setCell ⟨w.heap.size,0,none⟩ (II 0)).setCell ⟨w.heap.size,1,none⟩ (II az)).setCell ⟨w.heap.size,2,none⟩ (II 0)).setCell ⟨w.heap.size,3,none⟩ (II 0)).setCell ⟨w.heap.size,4,none⟩ (II 0)) :=
  (((((aj.refl (fun x=>x=w.heap.size) S).setCell (p:=⟨w.heap.size,0,none⟩) (.inl rfl) _).setCell (p:=⟨w.heap.size,1,none⟩) (.inl rfl) _).setCell (p:=⟨w.heap.size,2,none⟩) (.inl rfl) _).setCell (p:=⟨w.heap.size,3,none⟩) (.inl rfl) _).setCell (p:=⟨w.heap.size,4,none⟩) (.inl rfl) _
 refine bodyPost_ret (IV _ w.heap.size _ 0 az 0 0 0 0 rfl rfl ?_) rfl ⟨rfl,?_,?_,?_⟩
 ·exact ((((a.set 0 _).set 1 _).set 2 _).set 3 _).set 4 _
 ·have P:=ae Yr;refine P.aC E (fun e=>?_) (fun x f e=>?_) (fun y hy x f e=>?_)
  ·have:=((ae H).aW i g).ay.lt;omega
  ·obtain⟨ix',ho'⟩:=P.bg x f;subst e;exact au.ne ho' a (by decide) rfl
  ·subst e;exact (P.aW.side y hy).ne a (by decide) f
 ·obtain⟨bG,C,a2,cl4,a3⟩:=ae HA4;exact⟨bG,C.aC E (by omega) (fun x f e=>C.aO.ne a (by decide) (by decide) (by decide) (by decide) (by decide) (e▸f)),a2,cl4,a3.aC E (nZ.gZ (fun x f=>by subst f;exact⟨_,87,a,by rintro (e | e | e | e | e | e | e | e | ⟨_,e⟩) <;> exact absurd e (by decide)⟩))⟩
 ·exact (ae CB).from (E.mono (fun x h=>.inr (by omega)))
theorem AX(bv C D b i s t k:Nat)(V:aS)(id af az:Int)(w:World)(bk:Nat->Nat)(hbk:∀y,y<2->∀l,l<(V.B i).n y->bk ((V.B i).h y l)=V.bk i)(R:dL w bv C D V)(hT:qj w)(hid:(Lit.int .i64 id).wf=true)(hn:V.aV id=some b)(h0:(V.om b).aH≠0)(hp:cZ af=true)(hq:cZ az=true)(u:i<V.nb)(mf:(V.om b).sym=(V.B i).sym)(hlen:(V.B i).sym.size<=maxLen)
 (hs:s<2) (ht:t=1-s) (P:k<(V.B i).n t) (Z:(V.B i).h t k=b) (hside:(V.om b).side=(t:Int)) (hnk:¬(af=(V.om b).af/\az<=(V.om b).aH))
 (iv:su b s ⟨(V.B i).leave V.om t k,aK V.om b (dR (V.om b) af az),V.lg.dE b (V.om b)⟩) (hcn:(V.B i).n t<1000) (hcs:(V.B i).n s<=250) (hl1:V.lg.tp.length+300<1000000000) (hl2:V.lg.tr.length+300<1000000000) (hna:V.lg.ud+V.lg.na<3000000) :
 CT 38 #[PP bv,II id,II af,II az] w fun e w'=>∃v o j,e=.returned (.tuple #[v,II 0])/\aj (fun x=>x=bv\/V.lm.F x\/x=V.bk i\/x=b\/dn (V.B i) t x) w o/\(∀x,j.F x->V.lm.F x\/w.heap.size<=x)/\∃T,Vr bv C D i b s t k V j af az bk w.heap.size o v T/\au T w.heap.size bC 87/\aj (fun x=>x=w.heap.size) T w':=by
 have t2:t<2:=by omega
 obtain⟨A,Q⟩:=gy (w.alloc (.cells bC 87));have O:aj aA w A:=by rw[Q];exact (aj.refl aA w).alloc _
 have hra:au A w.heap.size bC 87:=by rw[Q];exact au.new w _ _
 have U:=(R.ax O).ve hid;rw[hn]at U;simp only[ja]at U;rw[Q]at U;simp only[bC]at U;obtain⟨-,ix,ho⟩:=R.bg id b hn;have o8:CC w b 8 (II (V.om b).aH):=ho.cell 8;have v1:CC w bv 1 (.map (some D)):=R.cO.cell 1;have lv:=R.cO.lt;have lo:=ho.lt;have lb:=(R.aW i u).ay.lt;have e0:((V.om b).aH == 0)=false:=by simp[h0]
 have hinj:qX ((V.B i).n t) ((V.B i).h t):=((R.aW i u).side t t2).inj;have hnew:∀x,x<2->∀l,l<((V.B i).leave V.om t k).n x->((V.B i).leave V.om t k).h x l≠b:=by
  intro x hx l hl;by_cases e:x=t
  ·subst e;obtain⟨k',_,e',hne⟩:=pz (om:=V.om) hinj P l hl;rw[e',<-Z];exact hne
  ·simp only[Bk.leave,ag _ _ e]at hl ⊢;rw[<-Z];have N:=(R.aW i u).vI;have:(x=0/\t=1)\/(x=1/\t=0):=by omega
   rcases this with⟨rfl,rfl⟩ | ⟨rfl,rfl⟩
   ·exact N l k hl P
   ·exact fun e=>N k l P hl e.symm
 have hmu:mu b s ⟨(V.B i).leave V.om t k,aK V.om b (dR (V.om b) af az),V.lg.dE b (V.om b)⟩<=251:=by
  unfold mu;simp only[Bk.leave];rw[ag _ _ (by omega)];split <;> omega
 have xy:∀y,y<2->∀g,ig ((V.B i).sl y)=some g->g<w.heap.size:=fun y hy g hg=>((R.aW i u).side y hy).lt hg
 have abe:=ai xy;have YZ:Hid (∀z j W,w.heap.size<=z.heap.size->iy z bv bk w.heap.size false (V.lm.ac.map Prod.snd) (V.lg.dE b (V.om b)).nt V.lm.tb j W->Mk z (V.bk i) ((V.B i).leave V.om t k) (aK V.om b (dR (V.om b) af az)) (fun x=>∃id,V.aV id=some x)->bz z bv C D (V.lg.dE b (V.om b)) j->CT 70 #[PP bv,PP (V.bk i),PP b] z fun e w'=>∃v,e=.returned v/\Vr bv C D i b s t k V j af az bk w.heap.size z v w'):=by
  intro z j W hW hC m hl;refine Qe bv (V.bk i) b s t C D ⟨(V.B i).leave V.om t k,aK V.om b (dR (V.om b) af az),V.lg.dE b (V.om b)⟩ j _ z bk w.heap.size _ _ W hC hW (fun l hl=>by simp only[Bk.leave]at hl ⊢;rw[ag _ _ (by omega)]at hl ⊢;exact hbk s hs l hl) (by rw[<-Z];exact hbk t t2 k P) xy hl m hs ht ⟨id,hn⟩ iv (fun x hx l hl=>hnew x hx l hl) (by simp only[Bk.leave,ah];omega) 999999999 (by omega) ?_ ?_ ?_ ?_ ?_
  ·simp only[Lg.dE,Lg.begun,Lg.aY]at hmu ⊢;omega
  ·simp only[Lg.dE,Lg.begun,Lg.aY]at hmu ⊢;omega
  ·show 0<V.lg.na+1;omega
  ·show V.lg.na+1<=3000000;omega
  ·simp only[Lg.dE,Lg.begun,Lg.aY,List.nil_append,List.length_cons,List.length_nil]at hmu ⊢;omega
 have HW:Hid (A=w.alloc (.cells #[II 0,II 0,II 0,II 0,II 0] 87)):=Q;have X:=rG ⟨#[114,101,112,108,97,99,101]⟩ (DX id af az) 3 A (hT.ax O) (by decide) (by decide) (by omega) (fun i u=>by
  match i,u with
  | 0,_=>exact bounds_i64 hid
  | 1,_=>exact tK (by simp[cZ]at hp;show -1000000<=af/\af<=1000000;omega)
  | 2,_=>exact tK (by simp[cZ]at hq;show -1000000<=az/\az<=1000000;omega))
 generalize iJ (DX id af az) ⟨#[114,101,112,108,97,99,101]⟩ 3=ln at X;have rW:=ai (oQ bv C D V.lg V.lm ln A (R.ax O).aO hna X.1.1 X.1.2);have HLs:=ai X.2;have hsz:A.heap.size=w.heap.size+1:=by rw[Q];simp
 have HCl:Hid (∀i,i<3->(A.alloc (.cells #[II id,II af,II az] 3)).cell? ⟨w.heap.size+1,i,none⟩=some (II (DX id af az i))):=by
  intro i u;rw[<-hsz]
  match i,u with
  | 0,_=>exact (au.new A _ _).cell 0
  | 1,_=>exact (au.new A _ _).cell 1
  | 2,_=>exact (au.new A _ _).cell 2
 clear X hsz;obtain⟨HR,HKB⟩:=aZ R Z;have hkp:((af == (V.om b).af) && decide (az<=(V.om b).aH))=false:=by
  cases h1:(af == (V.om b).af)
  ·rfl
  ·have:af=(V.om b).af:=by simpa using h1
   have:¬az<=(V.om b).aH:=fun h=>hnk ⟨this,h⟩
   simp[this]
 obtain⟨HKP,HN,Zk,HSd⟩:=gY hkp hn mf hside;clear R hn ho h0 mf xy Z hside hnk iv hnew hinj hkp Q hmu;go_enter Tryz.func38,Tryz.ntmps38;go_wp2_with (first | (go_at_call 68;refine (bJ _ _).mono ?_;rintro e w' ⟨rfl,rfl⟩) | fail);rw[<-ae HW];refine (ae HLs _ ((aj.refl aA A).alloc _) _ _ (ae HCl)).mono ?_;rintro e wl ⟨rfl,kl⟩;have PK:=ai kl;clear kl;go_wp2_with fail;refine (ae rW _ (ae PK)).mono ?_;rintro e d ⟨rfl,UW,hLb,MH,kb,htb,-,hac⟩;clear HLs PK HCl;clear U o8 v1;have K:=((ae HR).ax O).kM hLb kb;have hnb:({ V with lg:=V.lg.begun,lm:=UW }:aS).aV id=some b:=ae HN;obtain⟨-,ixb,hob⟩:=K.bg id b hnb;have o8:CC d b 8 (II (V.om b).aH):=au.cell hob 8;have o5:CC d b 5 (II (V.om b).af):=au.cell hob 5;have o2:d.cell? ⟨b,2,none⟩=some (.string (V.B i).sym):=by rw[<-ae Zk];exact au.cell hob 2
 have v0:CC d bv 0 (.map (some C)):=K.cO.cell 0;have L1:∀q,(Instr.lookup 94 (.map (some C)) (.string (V.B i).sym) false).run Tryz.prog (d.drewN q)=.ok (PP (V.bk i)) (d.drewN q):=fun q=>K.KA u hlen q
 have AA:∀x,w.heap.size<=x->¬(x=bv\/V.lm.F x):=by
  rintro x hx (e | e)
  ·omega
  ·have:=(ae HR).aO.aO.lt e;omega
 have hrb:=kb.ay hra (AA _ (Nat.le_refl _));have EF:∀x,UW.F x->V.lm.F x\/w.heap.size<=x:=fun x h=>(MH x h).imp_right (fun h=>Nat.le_trans O.size h)
 have J4:aj (fun x=>x=bv\/V.lm.F x) w d:=O.aP.trans kb;have Wx:=ai (fun q=>qJ (V.bk i) (V.B i) V.om (fun x=>∃id,V.aV id=some x) t k (d.drewN q) ((K.ax ((aj.refl aA d).drewN q)).sG u) t2 P (by rw[ae HKB];exact ae HSd));rw[ae HKB]at Wx;have HAm:=ai (fun (z:World) (m:Mk z (V.bk i) ((V.B i).leave V.om t k) V.om (fun x=>∃id,V.aV id=some x))=>Gj (V.bk i) b ((V.B i).leave V.om t k) V.om _ af az z m ⟨id,ae HN⟩);have uS:Hid (∀q w2 o G E M L,Mk w2 (V.bk i) ((V.B i).leave V.om t k) V.om (fun x=>∃id,V.aV id=some x)->aj (fun x=>x=V.bk i\/dn (V.B i) t x) (d.drewN q) w2->Mk o (V.bk i) ((V.B i).leave V.om t k) (aK V.om b (dR (V.om b) af az)) (fun x=>∃id,V.aV id=some x)->aj (fun x=>x=b) w2 o->jr w2 (V.bk i) b (d.drewN q).heap.size G E->jT o b (V.om b) w2.heap.size M L ->
  CT 53 #[PP bv,.slice (some ⟨o.heap.size,0,none⟩) 2 2] (o.alloc (.cells #[.func G #[] E,.func M #[] L] 1)) fun e w'=>e=.returned (.tuple #[]) /\
   Mk w' (V.bk i) ((V.B i).leave V.om t k) (aK V.om b (dR (V.om b) af az)) (fun x=>∃id,V.aV id=some x)/\∃j,bz w' bv C D (V.lg.dE b (V.om b)) j/\(∀x,j.F x->V.lm.F x\/w.heap.size<=x)/\aj (fun x=>x=bv\/V.lm.F x\/x=V.bk i\/x=b\/dn (V.B i) t x) w w'/\au w' w.heap.size bC 87/\∃W,iy w' bv bk w.heap.size false (V.lm.ac.map Prod.snd) (V.lg.dE b (V.om b)).nt V.lm.tb j W):=by
  intro q w2 o G E M L S I m3 J f2 f3;have h2:=(hLb.ax ((aj.refl aA d).drewN q)).jG I (fun x h=>((K.ax ((aj.refl aA d).drewN q)).sG u).gZ (by
   rcases h with h | h
   ·exact .inl h
   ·exact .inr (.inr ⟨t,t2,h⟩)))
  have h3:=h2.jG J (fun x h=>by subst h;exact S.gZ (.inr (.inl ⟨id,ae HN⟩)));have hr2:=I.ay (hrb.drewN q) (by
   rintro (h | h)
   ·omega
   ·have:=((ae HR).sG u).DL t2 h;omega)
  have hr3:=J.ay hr2 (fun h=>by omega);have N:aj aA d (d.drewN q):=(aj.refl aA d).drewN q;have mb:=(K.ax N).sG u;have cb:iy d bv bk w.heap.size false (V.lm.ac.map Prod.snd) V.lg.begun.nt V.lm.tb UW []:=iy.begun htb hac;have o2:nZ (d.drewN q) w.heap.size false (fun x=>x=V.bk i\/dn (V.B i) t x):=uf mb t2 (ae abe t t2);have o3:nZ w2 w.heap.size false (fun x=>x=b):=jQ S ⟨id,ae HN⟩;have c3:=((cb.ax N).aC I o2).aC J o3;have szb:=J4.size;have i2:bH w2 bv bk w.heap.size (.left b) (.func G #[] E):=⟨_,_,rfl,by
   show jr w2 (bk b) b _ G E;have e:bk b=V.bk i:=by rw[<-ae HKB];exact hbk t t2 k P
   rw[e];exact f2.mono (by have:=N.size;omega)⟩
  have i2':=i2.aC (q:=false) (fun h=>by cases h) J o3;have i3:bH o bv bk w.heap.size (.fV b (V.om b)) (.func M #[] L):=⟨_,_,rfl,f3.mono (by have:=N.size;have:=I.size;omega)⟩;refine (vP bv C D _ UW (.left b) (.fV b (V.om b)) G M E L o bk w.heap.size false _ _ _ h3 c3 (fun h=>by cases h) (fun h=>by cases h) i2' i3 (by show 0<V.lg.na+1;omega) (by show V.lg.na+1<=3000000;omega) (by show 0+2<1000000000;omega)).mono ?_;rintro e w' ⟨rfl,bG,a1,a2,a3',-,a5⟩;have a3:aj (fun x=>UW.F x) o w':=a3'.mono (fun b h=>BA h);have Ht:aj (fun x=>x=bv\/V.lm.F x\/x=V.bk i\/x=b\/dn (V.B i) t x) w o:=((J4.mono (fun x h=>h.imp_right .inl)).drewN q).trans ((I.mono (fun x h=>by rcases h with h | h;exact jL h;exact xA h)).trans (J.mono (fun x h=>iQ h)));refine⟨rfl,m3.jw h3 (a3.mono (fun _ h=>.inr h)),bG,a1,fun x hx=>?_,Ht.from (a3.mono (fun x h=>(EF x h).imp_left (fun h=>.inr (.inl h)))),a3.ay hr3 (h3.aO.ne hr3 (by decide) (by decide) (by decide)),_,a5⟩;rcases a2 x hx with h | h
  ·exact EF x h
  ·exact .inr (Nat.le_trans Ht.size h)
 clear hob hnb K hLb MH kb htb hac rW Zk HSd AA hrb EF J4 O hra HW;have e1:(af == (V.om b).af)=false\/((af == (V.om b).af)=true/\decide (az<=(V.om b).aH)=false):=by
  have:=ae HKP;cases h1:(af == (V.om b).af)
  ·exact .inl rfl
  ·rw[h1]at this;exact .inr ⟨rfl,by simpa using this⟩
 rcases e1 with e1 | ⟨e1,e2⟩
 all_goals
  go_wp2;go_quiet (fail);go_wp2_with fail;refine (ae Wx _).mono ?_;rintro e w2 ⟨G,E,rfl,f2,S,I⟩;go_wp2_with fail;refine (ae HAm w2 S).mono ?_;rintro e o ⟨M,L,rfl,f3,m3,J⟩;go_wp2_with fail;refine (ae uS _ w2 o G E M L S I m3 J f2 f3).mono ?_;rintro e T ⟨rfl,m4,j,hl4,hf4,J3,hr4,cl4,ZO⟩;obtain⟨HC4,Yr,HL4,HR4⟩:=gY (ae YZ T j cl4 J3.size ZO m4 hl4) m4 hl4 hr4;clear S I m3 J m4 hl4 hr4 ZO f2 f3;go_wp2_with fail;refine (ae HC4).mono ?_;rintro e w5 ⟨v,rfl,XA⟩;obtain⟨f,r,c,a,n,hrep⟩:=IU ((⟨(V.B i).leave V.om t k,aK V.om b (dR (V.om b) af az),V.lg.dE b (V.om b)⟩:MS).om b) (aI b (mF b s ⟨(V.B i).leave V.om t k,aK V.om b (dR (V.om b) af az),V.lg.dE b (V.om b)⟩) b) (MS.tr ⟨(V.B i).leave V.om t k,aK V.om b (dR (V.om b) af az),V.lg.dE b (V.om b)⟩) (mF b s ⟨(V.B i).leave V.om t k,aK V.om b (dR (V.om b) af az),V.lg.dE b (V.om b)⟩).tr;have hv5:v=.agg #[II f,II r,II c,II a,II n]:=by rw[XA.1];exact hrep
  have H:au w5 w.heap.size bC 87:=by
   obtain⟨_,g,cap',bG,_,_,_,k5,_⟩:=XA;refine k5.ay (ae HR4) ?_;have Y:=ae HR4;rintro (h | h | h | h | h | h)
   ·omega
   ·exact (ae HL4).aO.ne Y (by decide) (by decide) (by decide) (by decide) (by decide) h
   ·omega
   ·omega
   ·rcases h with h | ⟨l,hl,h⟩
    ·exact ((ae Yr).aW.side s hs).ne Y (by decide) h
    ·exact au.ne Y (((ae Yr).aW.side s hs).bg hl) (by decide) h
   ·rcases h with h | ⟨l,hl,h⟩
    ·exact ((ae Yr).aW.side t t2).ne Y (by decide) h
    ·exact au.ne Y (((ae Yr).aW.side t t2).bg hl) (by decide) h
  have HP:=ai XA;clear XA hrep;rw[hv5]at HP;rw[hv5];obtain⟨r0,r1,r2,r3,r4⟩:=H.c5;have q0:=H.frozen 0;have q1:=H.frozen 1;have q2:=H.frozen 2;have q3:=H.frozen 3;have q4:=H.frozen 4;clear hv5;go_wp2;refine bodyPost_ret (IV _ w.heap.size _ f r c a n 0 rfl rfl ?_) rfl ⟨_,T,j,rfl,J3,hf4,w5,ae HP,H,?_⟩
  ·exact ((((H.set 0 _).set 1 _).set 2 _).set 3 _).set 4 _
  ·exact (((((aj.refl (fun x=>x=w.heap.size) w5).setCell (p:=⟨w.heap.size,0,none⟩) (.inl rfl) _).setCell (p:=⟨w.heap.size,1,none⟩) (.inl rfl) _).setCell (p:=⟨w.heap.size,2,none⟩) (.inl rfl) _).setCell (p:=⟨w.heap.size,3,none⟩) (.inl rfl) _).setCell (p:=⟨w.heap.size,4,none⟩) (.inl rfl) _
def Py(bv bm bo i s t:Nat)(V:aS)(o:iR)(bk:Nat->Nat)(w:World)(v:Value)(w':World):Prop :=
 ∃b g cap' bG,w.heap.size<=b/\v=.tuple #[kK (aQ o) ((V.enter i b s t g cap' o bG).om b) V.tr (V.enter i b s t g cap' o bG).tr,II 0]/\dL w' bv bm bo (V.enter i b s t g cap' o bG) /\
  aj (bY bv bm bo V) w w'/\(∀x,bY bv bm bo (V.enter i b s t g cap' o bG) x->bY bv bm bo V x\/w.heap.size<=x)/\(ig ((V.B i).sl t)=some g\/w.heap.size<=g) /\
  ∃ext cl,iy w' bv bk w.heap.size false (V.lm.ac.map Prod.snd) (V.enter i b s t g cap' o bG).lg.nt (V.lm.tb++ext) bG cl/\(df ((mF b s ⟨V.B i,aK V.om b (aQ o),V.lg.bf o.id⟩).om b)=true->∀c∈cl,∀x,xw c x->x≠g)
theorem Uy(bv m bo i s t:Nat)(V:aS)(o:iR)(w:World)(bk:Nat->Nat)(hbk:∀y,y<2->∀l,l<(V.B i).n y->bk ((V.B i).h y l)=V.bk i)(abz:∀x,w.heap.size<=x->bk x=V.bk i)(R:dL w bv m bo V)(hT:qj w)(E:i<V.nb)(mf:(V.B i).sym=o.sym)(hlen1:o.sym.size<=100)(ZA:dM o.aG)(Zz:dM o.kind)(ZB:dM o.af)
 (h1:cZ o.id=true) (h2:V.aV o.id=none) (h6:cZ o.az=true) (h8:V.no<200) (hrf:∀W,dL W bv m bo V->CT 111 #[PP bv,o.val] W fun e w'=>e=.returned (II 0)/\aj aA W w')
 (hs:s<2) (ht:t=1-s) (hside:o.side=(t:Int)) (hinv:∀k,k<(V.B i).n s->(V.om ((V.B i).h s k)).side=(s:Int)/\0<(V.om ((V.B i).h s k)).aH/\(V.om ((V.B i).h s k)).aH<=1000000000000000) (hcnt:(V.B i).n t<=V.no) (hcs:(V.B i).n s<=V.no) (hl1:V.lg.tp.length+300<1000000000) (hl2:V.lg.tr.length+300<1000000000) (hna:V.lg.ud+V.lg.na<3000000) :
 CT 64 #[PP bv,o.val] w fun e w'=>∃v,e=.returned v/\Py bv m bo i s t V o bk w v w':=by
 have hwf:(Lit.int .i64 o.id).wf=true:=by
  simp[cZ]at h1;exact WalkArith.wf_i64 (by omega)
 have MJ:1<=o.az/\o.az<=1000000:=by simpa [cZ] using h6
 have hlen:o.sym.size<=maxLen:=by unfold maxLen;omega
 have bId:dM o.id:=tK (by simp[cZ]at h1;omega);have bSd:dM o.side:=tK (by rw[hside];omega);have bQt:dM o.az:=tK (by omega);obtain⟨Yv,Wv⟩:=aZ (GV o.id o.aG o.sym o.side o.kind o.af o.az hlen1 bId ZA bSd Zz ZB bQt) (fun W h=>Kr o.id o.aG o.sym o.side o.kind o.af o.az W h hlen1 bId ZA bSd Zz ZB bQt);clear bId ZA bSd Zz ZB bQt hlen1;generalize vK o.id o.aG o.sym o.side o.kind o.af o.az=ln at Yv Wv;obtain⟨Z,hw1⟩:=gy (((w.alloc (.cells #[PP bv] 35)).alloc (.cells (Uj o) 52)).alloc (.cells bC 87));have k1:aj aA w Z:=by rw[hw1];exact (((aj.refl aA w).alloc _).alloc _).alloc _
 have Z4:au Z w.heap.size #[PP bv] 35:=by rw[hw1];exact ((au.new w _ _).alloc _).alloc _
 have hx1:au Z (w.heap.size+1) (Uj o) 52:=by rw[hw1];exact (au.qm w _ _ _).alloc _
 have hr1:au Z (w.heap.size+2) bC 87:=by rw[hw1];exact au.MR w _ _ _ _
 have R1:=R.ax k1;have aao:=hrf Z R1;obtain⟨fB,mB,VF,Xk⟩:=R.iM;have hlb:fB (sl o.sym)=some (V.bk i):=by rw[<-mf];exact VF i E
 have hlk:∀w2,aj aA w w2->∀q,(Instr.lookup 94 (.map (some m)) (.string o.sym) false).run Tryz.prog (w2.drewN q)=.ok (PP (V.bk i)) (w2.drewN q):=fun w2 k2 q=>by
  rw[(mB.aC (k2.drewN q) idd).look yU Tryz.underlying94 (qA _) (WideMaps.keyOf_string_mk Tryz.underlying9 hlen)];show _=Result.ok (ja (some (V.bk i))) _;rw[<-hlb];rfl
 have hsl:au Z (V.bk i) (V.B i).cells 158:=(R1.aW i E).ay;obtain⟨HW1,HX,HL,hfree⟩:=gY hw1 aao hlk h2;clear hw1 aao hlk h1 h2 h6 hrf;obtain⟨D,WG,WE,HT⟩:=gY R mf hside ht;clear R R1 mB VF Xk hlb mf hside ht;simp only[iR.val];go_enter Tryz.func64,Tryz.ntmps64;have Zq:Hid (Z=((w.alloc (.cells #[PP bv] 35)).alloc (.cells #[II o.id,II o.aG,.string o.sym,II o.side,II o.kind,II o.af,II o.az] 52)).alloc (.cells #[II 0,II 0,II 0,II 0,II 0] 87)):=HW1;have VV:w.heap.size<w.heap.size+1+1:=by omega
 go_wp2_with fail;rw[<-ae Zq];refine (ae HX).mono ?_;rintro e w2 ⟨rfl,k2⟩;have kk2:=k1.trans k2;have hbx2:=k2.ay Z4 idd;have L:=k2.ay hx1 idd;have hr2:=k2.ay hr1 idd;have R2:=(ae D).ax kk2;have L1:=ae HL w2 kk2;have v0:CC w2 bv 0 (.map (some m)):=R2.cO.cell 0;have xb:CC w2 w.heap.size 0 (PP bv):=hbx2.cell 0;have x2:CC w2 (w.heap.size+1) 2 (.string o.sym):=L.cell 2;have x0:CC w2 (w.heap.size+1) 0 (II o.id):=L.cell 0;have x1:CC w2 (w.heap.size+1) 1 (II o.aG):=L.cell 1;have x3:CC w2 (w.heap.size+1) 3 (II o.side):=L.cell 3;have x4:CC w2 (w.heap.size+1) 4 (II o.kind):=L.cell 4;have x5:CC w2 (w.heap.size+1) 5 (II o.af):=L.cell 5;have x6:CC w2 (w.heap.size+1) 6 (II o.az):=L.cell 6;have f2:=L.frozen 2;have y0:CC w2 (V.bk i) 0 (.string o.sym):=((R2.aW i E).ay.cell 0).trans (by rw[<-ae WG];rfl);clear k1 k2 hx1 hr1 Z4 HW1 Zq HX HL hsl VV;go_wp2;go_quiet (fail);obtain⟨w3,hw3⟩:=gy ((w2.drewN nq).setCell ⟨w.heap.size+1,2,none⟩ (.string o.sym));have k3:aj (fun x=>x=w.heap.size+1) w2 w3:=by rw[hw3];exact ((aj.refl (fun x=>x=w.heap.size+1) w2).drewN _).setCell (p:=⟨w.heap.size+1,2,none⟩) (.inl rfl) _
 have hx3:au w3 (w.heap.size+1) (Uj o) 52:=by rw[hw3];exact (L.drewN _).set 2 _
 have HW3:=ai hw3;clear hw3;go_wp2_with fail;rw[<-ae HW3];refine (E5 o w3).mono ?_;rintro e w4 ⟨b,rfl,hb,QJ,k4⟩;clear x0 x1 x2 x3 x4 x5 x6 xb f2 y0 v0 L1;have VQ:aj aA w w4:=(kk2.from (k3.mono (fun x h=>.inr (by omega)))).trans k4;have Xr:=k4.ay (k3.ay hbx2 (fun h=>by omega)) idd;have hx4:=k4.ay hx3 idd;have hr4:=k4.ay (k3.ay hr2 (fun h=>by omega)) idd;have R4:=(ae D).ax VQ;have hb0:w.heap.size<=b:=by have:=kk2.size;have:=k3.size;omega
 have rW:=ai (oQ bv m bo V.lg V.lm ln w4 R4.aO hna (ae Yv).1 (ae Yv).2);have HLn:=ai (ae Wv w4 (hT.ax VQ));have xb4:CC w4 w.heap.size 0 (PP bv):=Xr.cell 0;obtain⟨y0,y1,y2,y3,y4,y5,y6⟩:=hx4.c7;have AA:∀x,w.heap.size<=x->¬(x=bv\/V.lm.F x):=by
  rintro x d (e | e)
  ·have:=(ae D).cO.lt;omega
  ·have:=(ae D).aO.aO.lt e;omega
 have H:=ai AA;clear AA hbx2 L hr2 hx3 k3 k4 HW3 Wv;go_wp2;go_region_held3 (fun w'=>w'.cell? ⟨w.heap.size,0,none⟩=some (PP bv)/\w'.cell? ⟨w.heap.size+1,0,none⟩=some (II o.id)/\w'.cell? ⟨w.heap.size+1,1,none⟩=some (II o.aG)/\w'.cell? ⟨w.heap.size+1,2,none⟩=some (.string o.sym)/\w'.cell? ⟨w.heap.size+1,3,none⟩=some (II o.side)/\w'.cell? ⟨w.heap.size+1,4,none⟩=some (II o.kind)/\w'.cell? ⟨w.heap.size+1,5,none⟩=some (II o.af)/\w'.cell? ⟨w.heap.size+1,6,none⟩=some (II o.az)) (go_keep)
  (first
    | (go_at_call 113;refine (ae HLn _ ?cc).mono ?_;(case cc=>repeat (first | exact aj.refl _ _ | refine aj.drew ?_));rintro e wl ⟨rfl,K⟩;have z0:=K.cell (p:=⟨w.heap.size,0,none⟩) xb4 idd;have z1:=K.cell (p:=⟨w.heap.size+1,0,none⟩) y0 idd;have z2:=K.cell (p:=⟨w.heap.size+1,1,none⟩) y1 idd;have z3:=K.cell (p:=⟨w.heap.size+1,2,none⟩) y2 idd;have z4:=K.cell (p:=⟨w.heap.size+1,3,none⟩) y3 idd;have z5:=K.cell (p:=⟨w.heap.size+1,4,none⟩) y4 idd;have z6:=K.cell (p:=⟨w.heap.size+1,5,none⟩) y5 idd;have z7:=K.cell (p:=⟨w.heap.size+1,6,none⟩) y6 idd;have PK:=ai K;clear K)
    | (go_at_call 51;refine (ae rW _ ?cc).mono ?_;(case cc=>repeat (first | exact ae PK | refine aj.drew ?_));rintro e J ⟨rfl,S,N,MH,u,htb,-,hac⟩;have Vz:=ai htb;have YM:=ai hac;clear htb hac;have z0:=u.cell (p:=⟨w.heap.size,0,none⟩) xb4 (ae H _ (Nat.le_refl _));have z1:=u.cell (p:=⟨w.heap.size+1,0,none⟩) y0 (ae H _ (Nat.le_succ _));have z2:=u.cell (p:=⟨w.heap.size+1,1,none⟩) y1 (ae H _ (Nat.le_succ _));have z3:=u.cell (p:=⟨w.heap.size+1,2,none⟩) y2 (ae H _ (Nat.le_succ _));have z4:=u.cell (p:=⟨w.heap.size+1,3,none⟩) y3 (ae H _ (Nat.le_succ _));have z5:=u.cell (p:=⟨w.heap.size+1,4,none⟩) y4 (ae H _ (Nat.le_succ _));have z6:=u.cell (p:=⟨w.heap.size+1,5,none⟩) y5 (ae H _ (Nat.le_succ _));have z7:=u.cell (p:=⟨w.heap.size+1,6,none⟩) y6 (ae H _ (Nat.le_succ _));have Jp:=ai N;have F9:=ai MH;have PI:=ai u;clear N MH u))
 rename_i QD;clear QD z0 z1 z2 z3 z4 z5 z6 z7 y0 y1 y2 y3 y4 y5 y6 HLn PK;have N:=ae Jp;have MH:=ae F9;have u:=ae PI;clear Jp F9 PI;clear xb4;have Rb:=R4.kM N u;have UF:=u.ay Xr (ae H _ (Nat.le_refl _));have hxb:=u.ay hx4 (ae H _ (by omega));have hrb:=u.ay hr4 (ae H _ (by omega));have hob:bV J b (aQ o) 0:=u.ay QJ (ae H _ hb0);have J4:aj (fun x=>x=bv\/V.lm.F x) w J:=VQ.aP.trans u;obtain⟨fO,YF,fOb⟩:=Rb.fA;simp only at YF fOb;obtain⟨U,hU,mOm,km⟩:=(YF.aC ((aj.refl aA J).drew) idd).put (x:=b) yT Tryz.underlying95 (by unfold maxLen;omega) (keyOf_int_mk Tryz.underlying3 hwf) trivial (by rw[fOb];exact ae hfree);have v1:CC J bv 1 (.map (some bo)):=Rb.cO.cell 1;have xb5:CC J w.heap.size 0 (PP bv):=UF.cell 0;have x0:CC J (w.heap.size+1) 0 (II o.id):=hxb.cell 0;obtain⟨HMm,HKb,CB,HR4⟩:=gY mOm u VQ R4;clear mOm u VQ R4 Xr hx4 hr4 QJ rW;go_wp2;go_region;clear hU v1 x0 xb5;have ZF:∀{b':Nat} {c:Array Value} {C:TypeId},au J b' c C->au U b' c C:=fun h=>km.ay h.drew (Ne.symm (YF.ne h))
 have hvm:bz U bv m bo V.lg.begun S:=(N.ax (aj.refl aA J).drew).aC km (Ne.symm (YF.ne N.cO)) (fun y M e=>by
  obtain⟨c,C,hc,_⟩:=N.aO.gZ M;exact YF.ne hc e.symm)
 have Xt:=ZF UF;have xbm:CC U w.heap.size 0 (PP bv):=Xt.cell 0;have hxm:=ZF hxb;have cm:iy U bv bk w.heap.size false (V.lm.ac.map Prod.snd) V.lg.begun.nt V.lm.tb S []:=iy.begun (ae Vz) (ae YM);have im:bH U bv bk w.heap.size (.entered o.id) (.func (.func 114) #[] #[PP w.heap.size,PP (w.heap.size+1)]):=⟨_,_,rfl,rfl,w.heap.size,_,Nat.le_refl _,rfl,Xt,hxm,rfl⟩;have uS:=ai (nV bv m bo V.lg.begun S (.entered o.id) (.func 114) #[PP w.heap.size,PP (w.heap.size+1)] U bk w.heap.size false _ _ _ hvm cm (fun h=>by cases h) im (by show 0<V.lg.na+1;omega) (by show V.lg.na+1<=3000000;omega) (by show 0+1<1000000000;omega));go_wp2_with fail;refine (ae uS).mono ?_;rintro e z ⟨rfl,TS,hv5,hFn,kn',-,c5⟩;have kn:aj (fun x=>S.F x) U z:=kn'.mono (fun b h=>BA h);clear xbm kn' cm im hxm;change iy z bv bk w.heap.size false (V.lm.ac.map Prod.snd) (V.lg.bf o.id).nt V.lm.tb TS _ at c5;change bz z bv m bo (V.lg.bf o.id) TS at hv5;have bne:∀{b':Nat} {c:Array Value} {C:TypeId},au J b' c C->C≠103->C≠62->C≠105->C≠109->C≠1/\C≠5->au z b' c C:=fun h h1 h2 h3 h4 h5=>kn.ay (ZF h) (hvm.aO.ne (ZF h) h1 h2 h3 h4 h5)
 have ho5:bV z b (aQ o) 0:=bne hob (by decide) (by decide) (by decide) (by decide) (by decide);have P:=bne hrb (by decide) (by decide) (by decide) (by decide) (by decide);have Z5:=bne UF (by decide) (by decide) (by decide) (by decide) (by decide);have hFm:∀x,S.F x->V.lm.F x\/w.heap.size<=x:=fun x d=>(MH x d).imp_right (fun h=>Nat.le_trans (ae CB).size h)
 have kkm:aj (fun x=>x=bo\/x=bv\/V.lm.F x) w U:=(J4.mono (fun x h=>.inr h)).drew.trans (km.mono (fun x h=>.inl h));have UE:∀x,TS.F x->V.lm.F x\/w.heap.size<=x:=fun x d=>by
  rcases hFn x d with h | h
  ·exact hFm x h
  ·exact .inr (Nat.le_trans kkm.size h)
 have Y:aj (fun x=>x=bo\/x=bv\/V.lm.F x) w z:=kkm.from (kn.mono (fun x h=>(hFm x h).imp_left (fun h=>.inr (.inr h))));have O:∀x,x<2->∀y,dn (V.B i) x y->y<w.heap.size:=fun x d y h=>by
  rcases h with h | ⟨l,A,rfl⟩
  ·exact (((ae D).aW i E).side x d).lt h
  ·exact ((((ae D).aW i E).side x d).bg A).lt
 have kb5:aj (fun x=>x=bo\/S.F x) J z:=((aj.refl (fun x=>x=bo\/S.F x) J).drew.trans (km.mono (fun x h=>.inl h))).trans (kn.mono (fun x h=>.inr h));have Xy:∀x c t,au J x c t->(t=158\/t=114\/t=116)->¬(x=bo\/S.F x):=by
  rintro x c C d ht' (e | e)
  ·exact YF.ne d e.symm
  ·exact N.aO.ne d (by rcases ht' with rfl | rfl | rfl <;> decide) (by rcases ht' with rfl | rfl | rfl <;> decide) (by rcases ht' with rfl | rfl | rfl <;> decide) (by rcases ht' with rfl | rfl | rfl <;> decide) (by rcases ht' with rfl | rfl | rfl <;> decide) e
 have zY:bM z (V.bk i) (V.B i) V.om:=(Rb.aW i E).jG kb5 Xy;have JX:bM z (V.bk i) (V.B i) (aK V.om b (aQ o)):=by
  refine⟨zY.ay,fun x d=>(zY.side x d).om (fun l A=>ag _ _ (fun e=>?_)),zY.apart,zY.vI⟩;have:=O x d _ (.inr ⟨l,A,rfl⟩);omega
 have hmk5:Mk z (V.bk i) (V.B i) (aK V.om b (aQ o)) (fun x=>x=b\/∃id,V.aV id=some x):=by
  refine⟨JX,fun x d=>?_,fun x d l A=>.inr ((ae D).mem i E x d l A)⟩;rcases d with rfl | ⟨id,d⟩
  ·rw[ah];exact⟨0,ho5⟩
  ·obtain⟨_,ix,h⟩:=(ae D).bg id x d;have:=h.lt;obtain⟨_,ix4,h4⟩:=Rb.bg id x d;rw[ag _ _ (by omega)];exact⟨ix4,kb5.ay h4 (Xy _ _ _ h4 (.inr (.inr rfl)))⟩
 have mO5:kG z 3 bo (BU fO (.int .i64 o.id) b) (V.no+1):=(ae HMm).aC kn (fun e=>by
  obtain⟨c,C,hc,_⟩:=hvm.aO.gZ e;exact (ae HMm).ne hc rfl)
 have HM5:=ai mO5;have xb6:CC z w.heap.size 0 (PP bv):=Z5.cell 0;clear mO5 uS HMm HKb CB HR4 kb5 Xy zY ZF UF hxb hrb hob Xt hvm kkm J4 kn km Rb N MH hFn;have hT:=ae HT;have iv5:su b s ⟨V.B i,aK V.om b (aQ o),V.lg.bf o.id⟩:=by
  refine⟨fun l A=>?_,(JX.side s hs).inj,?_,?_,?_⟩
  ·have hlt:=O s hs _ (.inr ⟨l,A,rfl⟩);simp only;rw[ag _ _ (by omega)];exact⟨(hinv l A).1,(hinv l A).2.1,(hinv l A).2.2,by omega⟩
  ·simp only[ah,aQ];omega
  ·simp only[ah,aQ];omega
  ·simp only[ah,aQ];rw[ae WE];omega
 have VI:=Qe bv (V.bk i) b s t m bo ⟨V.B i,aK V.om b (aQ o),V.lg.bf o.id⟩ TS (fun x=>x=b\/∃id,V.aV id=some x) z bk w.heap.size _ _ _ c5 Y.size (fun l A=>hbk s hs l A) (abz b hb0) (fun y M g hg=>O y M g (.inl hg)) hv5 hmk5 hs hT (.inl rfl) iv5 (fun x d l A=>by
  have:=O x d _ (.inr ⟨l,A,rfl⟩);simp only;omega) (by simp only;omega) 999999999 (by omega) (by unfold mu;simp only[Lg.bf,Lg.begun,Lg.aY];split <;> omega) (by unfold mu;simp only[Lg.bf,Lg.begun,Lg.aY];split <;> omega) (by simp only[Lg.bf,Lg.begun,Lg.aY];omega) (by simp only[Lg.bf,Lg.begun,Lg.aY];omega) (by unfold mu;simp only[Lg.bf,Lg.begun,Lg.aY,List.length_append,List.length_cons,List.length_nil];split <;> omega)
 have fin:∀T G w7,au G (w.heap.size+2) bC 87->zC bv (V.bk i) b s t m bo ⟨V.B i,aK V.om b (aQ o),V.lg.bf o.id⟩ TS (fun x=>x=b\/∃id,V.aV id=some x) z bk w.heap.size (V.lm.ac.map Prod.snd) V.lm.tb T G->aj (fun x=>x=w.heap.size+2) G w7->Py bv m bo i s t V o bk w (.tuple #[T,II 0]) w7:=by
  rintro T G w7 hz6 ⟨hv6,g,cap',bG,hm6,hb6,hf6,k6,hg6,ext,cl6,cu6,abB⟩ X;have I:dL G bv m bo (V.enter i b s t g cap' o bG):=by
   refine (ae D).enter E hs hT h8 (ae hfree) hb0 ho5 hv5 UE Y ⟨_,ae HM5,fun id=>?_⟩ iv5 rfl hm6 hb6 k6 hg6;by_cases e:id=o.id
   ·rw[if_pos e,e,Dy (kl:=.int .i64 o.id) trivial]
   ·rw[if_neg e,AO (kl:=.int .i64 o.id) (k:=.int .i64 id) trivial (fun h=>e (by simpa using h)),fOb]
  have sdF:∀x,x<2->∀y,dn (V.B i) x y->bY bv m bo V y:=fun x d y h=>iQ ⟨i,E,.inr ⟨x,d,h⟩⟩
  have kF:aj (bY bv m bo V) w G:=by
   refine (Y.mono (S':=bY bv m bo V) (fun x h=>by rcases h with h | h | h;exact jL h;exact .inl h;exact vk h)).from (k6.mono (fun x h=>?_));rcases h with h | h | h | h | h | h
   ·exact .inl (.inl h)
   ·exact (UE x h).imp_left (fun h=>vk h)
   ·exact .inl (iQ ⟨i,E,.inl h⟩)
   ·right;omega
   ·exact .inl (sdF s hs x h)
   ·exact .inl (sdF t (by omega) x h)
  have aaj:¬bY bv m bo (V.enter i b s t g cap' o bG) (w.heap.size+2):=I.JS (c:=bC) (t:=87) (k6.ay P (by
   rintro (h | h | h | h | h | h)
   ·have:=(ae D).cO.lt;omega
   ·exact hv5.aO.ne P (by decide) (by decide) (by decide) (by decide) (by decide) h
   ·have:=((ae D).aW i E).ay.lt;omega
   ·exact au.ne ho5 P (by decide) h.symm
   ·have:=O s hs _ h;omega
   ·have:=O t (by omega) _ h;omega)) (by decide) (by decide) (by decide) (by decide) (by decide) (by decide) (by decide)
  have hR7:dL w7 bv m bo (V.enter i b s t g cap' o bG):=by
   obtain⟨gB,nB,g1,g2⟩:=I.iM;obtain⟨gO,nO,g3⟩:=I.fA;have nf:∀x,bY bv m bo (V.enter i b s t g cap' o bG) x->¬x=w.heap.size+2:=fun x h e=>aaj (e▸h)
   exact⟨I.aO.aC X (nf _ (.inl rfl)) (fun y M=>nf y (vk M)),⟨gB,nB.aC X (nf _ (.inr (.inl rfl))),g1,g2⟩,⟨gO,nO.aC X (nf _ (jL rfl)),g3⟩,I.F5,fun j hj=>(I.aW j hj).aC X (fun x d=>nf x (by
    rcases d with h | ⟨y,M,h⟩
    ·exact iQ ⟨j,hj,.inl h⟩
    ·exact iQ ⟨j,hj,.inr ⟨y,M,h⟩⟩)),fun id x h=>⟨(I.bg id x h).1,(I.bg id x h).2.elim fun ix ho=>⟨ix,X.ay ho (nf x (qo ⟨id,h⟩))⟩⟩,I.mem,I.rY,I.nX,I.fM⟩
  refine⟨b,g,cap',bG,hb0,by rw[hv6];simp only[ah];rfl,hR7,kF.from (X.mono (fun x h=>.inr (by omega))),fun x d=>?_,?_,ext,cl6,cu6.aC X (nZ.gZ (fun x d=>by subst d;exact⟨_,87,hz6,by unfold pO;decide⟩)),abB⟩
  ·rcases d with h | h | h | ⟨j,hj,h⟩ | ⟨id,h⟩ | h
   ·exact .inl (.inl h)
   ·exact .inl (.inr (.inl h))
   ·exact .inl (jL h)
   ·rcases h with h | ⟨y,M,h⟩
    ·exact .inl (iQ ⟨j,hj,.inl h⟩)
    ·by_cases e:j=i
     ·subst e;simp only[aS.enter,ah]at h;rcases zT h with h | h | h
      ·left;refine iQ ⟨j,E,.inr ⟨y,M,?_⟩⟩;obtain⟨f1,f2,_⟩:=jB b s (mu b s ⟨V.B j,aK V.om b (aQ o),V.lg.bf o.id⟩) ⟨V.B j,aK V.om b (aQ o),V.lg.bf o.id⟩;by_cases es:y=s
       ·subst es;exact (xU _ _ iv5).2.2.1 x h
       ·change dn (mF b s ⟨V.B j,aK V.om b (aQ o),V.lg.bf o.id⟩).B y x at h;unfold dn mF at h;rw[f2,(f1 y es).1,(f1 y es).2]at h;exact h
      ·right;omega
      ·rcases hg6 with h' | h'
       ·exact .inl (sdF t (by omega) x (.inl (by rw[h];exact h')))
       ·right;have:=Y.size;omega
     ·simp only[aS.enter,ag _ _ e]at h;exact .inl (iQ ⟨j,hj,.inr ⟨y,M,h⟩⟩)
   ·simp only[aS.enter]at h;split at h
    ·simp at h;right;omega
    ·exact .inl (qo ⟨id,h⟩)
   ·rcases hf6 x h with h | h
    ·exact (UE x h).imp_left (fun h=>vk h)
    ·right;have:=Y.size;omega
  ·rcases hg6 with h' | h'
   ·exact .inl h'
   ·right;have:=Y.size;omega
 have aaP:∀T G,zC bv (V.bk i) b s t m bo ⟨V.B i,aK V.om b (aQ o),V.lg.bf o.id⟩ TS (fun x=>x=b\/∃id,V.aV id=some x) z bk w.heap.size (V.lm.ac.map Prod.snd) V.lm.tb T G->au G (w.heap.size+2) bC 87:=by
  rintro T G ⟨_,g,cap',bG,_,_,_,k6,_,_⟩;refine k6.ay P ?_;rintro (h | h | h | h | h | h)
  ·have:=(ae D).cO.lt;omega
  ·exact hv5.aO.ne P (by decide) (by decide) (by decide) (by decide) (by decide) h
  ·have:=((ae D).aW i E).ay.lt;omega
  ·exact au.ne ho5 P (by decide) h.symm
  ·have:=O s hs _ h;omega
  ·have:=O t (by omega) _ h;omega
 have TI:=ai aaP;clear aaP;obtain⟨HC,HF,Ze⟩:=fK VI fin P;clear fin VI c5 iv5 hmk5 JX O Y P hv5 ho5 bne HM5 hT UE hFm Z5;go_wp2_with fail;refine (ae HC).mono ?_;rintro e G ⟨T,rfl,hp6⟩;obtain⟨f,r,c,a,n,hrep⟩:=IU ((⟨V.B i,aK V.om b (aQ o),V.lg.bf o.id⟩:MS).om b) (aI b (mF b s ⟨V.B i,aK V.om b (aQ o),V.lg.bf o.id⟩) b) V.tr (mF b s ⟨V.B i,aK V.om b (aQ o),V.lg.bf o.id⟩).tr;have hv6:T=.agg #[II f,II r,II c,II a,II n]:=by rw[hp6.1];exact hrep
 have Q:au G (w.heap.size+2) bC 87:=ae TI _ _ hp6;have HP:=ai hp6;clear hp6 hrep;rw[hv6]at HP;rw[hv6];obtain⟨r0,r1,r2,r3,r4⟩:=Q.c5;have q0:=Q.frozen 0;have q1:=Q.frozen 1;have q2:=Q.frozen 2;have q3:=Q.frozen 3;have q4:=Q.frozen 4;clear hv6;go_wp2;refine bodyPost_ret (acg _ (w.heap.size+2) _ f r c a n rfl rfl ?_) rfl ⟨_,rfl,ae HF _ _ _ Q (ae HP) ?_⟩
 ·exact ((((Q.set 0 _).set 1 _).set 2 _).set 3 _).set 4 _
 ·exact (((((aj.refl (fun x=>x=w.heap.size+2) G).setCell (p:=⟨w.heap.size+2,0,none⟩) (.inl rfl) _).setCell (p:=⟨w.heap.size+2,1,none⟩) (.inl rfl) _).setCell (p:=⟨w.heap.size+2,2,none⟩) (.inl rfl) _).setCell (p:=⟨w.heap.size+2,3,none⟩) (.inl rfl) _).setCell (p:=⟨w.heap.size+2,4,none⟩) (.inl rfl) _
def PO(w:World)(cl cl':List Value):Prop:=∃news,cl'=cl++news/\∀c∈news,∀x,xw c x->w.heap.size<=x
def Jt(w:World)(cl:List Value)(g:Nat)(cl':List Value):Prop:=∃news,cl'=cl++news/\∀c∈news,∀x,xw c x->w.heap.size<=x/\x≠g
def vC(bv bm bo:Nat)(G:Lg)(lm:Lm)(bk:Nat->Nat)(lw:Nat)(tq:Bool)(old:List (List Value))(dP:List Nat)(P:List Value->Prop)(ds:List dU)(w w':World):Prop :=
 ∃bG cl',bz w' bv bm bo (G.aY ds) bG/\(∀x,bG.F x->lm.F x\/w.heap.size<=x)/\iy w' bv bk lw tq old (G.aY ds).nt dP bG cl'/\P cl'
theorem xg(bv g u i b s:Nat)(V:aS)(id q:Int)(again:Bool)(w:World)(bk:Nat->Nat)(o:Nat)(tq:Bool)(C:List (List Value))(dP:List Nat)(v:List Value)(O:iy w bv bk o tq C V.lg.nt dP V.lm v)(TP:o<=w.heap.size)(hbk:bk b=V.bk i)(R:dL w bv g u V)(y:i<V.nb)(z:V.aV id=some b)(X:(V.om b).sym=(V.B i).sym)(hlen:(V.B i).sym.size<=maxLen)(hs:s<2)(W:(V.om b).side=1-(s:Int))
 (Q:again=false\/dS (V.om b).kind=false\/(dA (V.B i) V.om (bI (V.om b)) s).isSome=true) (hna:0<V.lg.na) (kX:V.lg.na<=3000000) (hnt:V.lg.nt.length+3<1000000000) :
 CT 75 #[PP bv,PP b,II q,.bool again] w fun e w'=>e=.returned (.tuple #[]) /\
  Mk w' (V.bk i) (V.B i) (aK V.om b (eY (V.om b) q)) (fun x=>∃id,V.aV id=some x)/\vC bv g u V.lg V.lm bk o tq C dP (PO w v) [.fV b (V.om b)] w w'/\aj (fun x=>x=b\/gK V.lm.av V.lm.ac x) w w':=by
 obtain⟨-,ix,A⟩:=R.bg id b z;have L:∀n,(Instr.lookup 94 (.map (some g)) (.string (V.B i).sym) false).run Tryz.prog (w.drewN n)=.ok (PP (V.bk i)) (w.drewN n):=fun n=>(R.ax ((aj.refl aA w).drewN n)).yJ y hlen
 have WQ:(Instr.lookup 94 (.map (some g)) (.string (V.B i).sym) false).run Tryz.prog w.drew=.ok (PP (V.bk i)) w.drew:=L 1;have v0:CC w bv 0 (.map (some g)):=R.cO.cell 0;have o2:w.cell? ⟨b,2,none⟩=some (.string (V.B i).sym):=by rw[<-X];exact A.cell 2
 have D:=ai (fun (a:World) (k:aj aA w a)=>yR (V.bk i) b (V.B i) V.om (fun x=>∃id,V.aV id=some x) q a ((R.ax k).sG y) ⟨id,z⟩);have HF:=ai (fun (a:World) (k:aj aA w a)=>kV (V.bk i) (V.B i) V.om (bI (V.om b)) s a ((R.ax k).aW i y) hs W);have K:Hid (∀a,aj aA w a->bV a b (V.om b) ix):=fun a k=>k.ay A idd
 have E:Hid (∀a wq fn j,aj aA w a->aj (fun x=>x=b) a wq->Mk wq (V.bk i) (V.B i) (aK V.om b (eY (V.om b) q)) (fun x=>∃id,V.aV id=some x)->jT wq b (V.om b) a.heap.size fn j ->
  CT 53 #[PP bv,.slice (some ⟨wq.heap.size,0,none⟩) 1 1] (wq.alloc (.cells #[.func fn #[] j] 1)) fun e w'=>e=.returned (.tuple #[])/\Mk w' (V.bk i) (V.B i) (aK V.om b (eY (V.om b) q)) (fun x=>∃id,V.aV id=some x)/\vC bv g u V.lg V.lm bk o tq C dP (PO w v) [.fV b (V.om b)] w w'/\aj (fun x=>x=b\/gK V.lm.av V.lm.ac x) w w'):=by
  intro a wq fn j kW H m M;have N:=(R.aO.ax kW).jG H (fun x h=>by subst h;exact⟨_,116,kW.ay A idd,.inr (.inl rfl)⟩);have cq:=(O.ax kW).aC H (jQ ((R.ax kW).sG y) ⟨id,z⟩);have iq:bH wq bv bk o (.fV b (V.om b)) (.func fn #[] j):=⟨_,_,rfl,M.mono (by have:=kW.size;omega)⟩;refine (nV bv g u V.lg V.lm (.fV b (V.om b)) fn j wq bk o tq C dP v N cq (fun h=>by cases h) iq hna kX (by omega)).mono ?_;rintro e w' ⟨rfl,bG,a1,a2,a3,-,a5⟩;have kk:=kW.aP.trans H;exact⟨rfl,m.jw N (a3.mono (fun _ h=>xA h)),⟨bG,_,a1,fun x G=>(a2 x G).imp_right (fun h=>Nat.le_trans kk.size h),a5,[.func fn #[] j],rfl,fun c P x G=>by
   rw[List.mem_singleton]at P;subst P;exact (show bH wq bv bk w.heap.size (.fV b (V.om b)) (.func fn #[] j) from ⟨_,_,rfl,M.mono kW.size⟩).cap G |>.1⟩,(kk.mono (fun _ h=>.inl h)).trans (a3.mono (fun _ h=>.inr h))⟩
 have HCo:=ai Q;clear O R z X W Q A hs;go_enter Tryz.func75,Tryz.ntmps75;go_wp2;go_quiet (fail);have d:aj aA w (w.drewN nq):=(aj.refl aA w).drewN _;obtain⟨J,Y⟩:=gy (w.drewN nq);rw[<-Y]at d ⊢;clear Y L WQ v0 o2;cases again with
 | false =>
   go_wp2_with fail;refine (ae D J d).mono ?_;rintro e w2 ⟨r,p,rfl,F,I,l⟩;go_wp2_with fail;refine (ae E _ w2 r p d l I F).mono ?_;rintro e wz ⟨rfl,t⟩;go_wp2
   try simp only[Exit.inBlock,Exit.then]
   refine bodyPost_ret (results_none rfl _ _ _) rfl ?_;exact⟨rfl,t⟩
 | true =>
   go_wp2_with fail;refine (qN b _ ix J (ae K J d)).mono ?_;rintro e w1' ⟨rfl,Z⟩;rw[Z];clear Z w1';cases hr:dS (V.om b).kind with
   | false =>
     clear hr;go_wp2_with fail;refine (ae D _ d).mono ?_;rintro e w2 ⟨r,p,rfl,F,I,l⟩;go_wp2_with fail;refine (ae E _ w2 r p d l I F).mono ?_;rintro e wz ⟨rfl,t⟩;go_wp2
     try simp only[Exit.inBlock,Exit.then]
     refine bodyPost_ret (results_none rfl _ _ _) rfl ?_;exact⟨rfl,t⟩
   | true =>
     have S:(dA (V.B i) V.om (bI (V.om b)) s).isSome=true:=by
      rcases ae HCo with h | h | h
      ·simp at h
      ·rw[hr]at h;simp at h
      ·exact h
     obtain⟨f,T⟩:=Option.isSome_iff_exists.1 S;have Y0:=ai T;clear hr S T;have U:=ae K _ d;obtain⟨Xa,VC,Xb,Xc,Xd,Xe,Xf⟩:=U.c7;clear U;go_wp2_with fail;refine (ae HF _ d).mono ?_;rintro e w2 ⟨rfl,l⟩;rw[ae Y0];simp only[ja];clear Xa VC Xb Xc Xd Xe Xf;go_wp2_with fail;refine (ae D _ (d.trans l)).mono ?_;rintro e w3 ⟨r,p,rfl,f3,m3,k3⟩;go_wp2_with fail;refine (ae E _ w3 r p (d.trans l) k3 m3 f3).mono ?_;rintro e wz ⟨rfl,t⟩;go_wp2
     try simp only[Exit.inBlock,Exit.then]
     refine bodyPost_ret (results_none rfl _ _ _) rfl ?_;exact⟨rfl,t⟩
theorem Bf(bv v I i b s t:Nat)(V:aS)(id q:Int)(w:World)(bk:Nat->Nat)(o:Nat)(tq:Bool)(O:List (List Value))(dP:List Nat)(C:List Value)(X:iy w bv bk o tq O V.lg.nt dP V.lm C)(TP:o<=w.heap.size)(hbk:bk b=V.bk i)(xy:∀g,ig ((V.B i).sl t)=some g->g<o)(R:dL w bv v I V)(M:i<V.nb)(u:V.aV id=some b)(mf:(V.om b).sym=(V.B i).sym)(hlen:(V.B i).sym.size<=maxLen)(hs:s<2)(ht:t=1-s)(S:(V.om b).side=(t:Int))
 (hr:dS (V.om b).kind=true) (hf:dA (V.B i) V.om (bI (V.om b)) s=none) (h0:¬0<(V.om b).aH) (hnew:∀x,x<2->∀k,k<(V.B i).n x->(V.B i).h x k≠b) (hn:(V.B i).n t<1000) (hna:0<V.lg.na) (kX:V.lg.na<=3000000) (hnt:V.lg.nt.length+3<1000000000) :
 CT 75 #[PP bv,PP b,II q,.bool true] w fun e w'=>e=.returned (.tuple #[]) /\
  ∃g cap',Mk w' (V.bk i) ((V.B i).rest (bQ V i b q) t b g cap') (bQ V i b q) (fun x=>∃id,V.aV id=some x)/\vC bv v I V.lg V.lm bk o tq O dP (Jt w C g) [.fV b (V.om b),.eQ b (V.om b).place] w w'/\aj (fun x=>(x=V.bk i\/x=b\/dn (V.B i) t x)\/gK V.lm.av V.lm.ac x) w w'/\(ig ((V.B i).sl t)=some g\/w.heap.size<=g):=by
 obtain⟨-,ix,N⟩:=R.bg id b u;have U:∀n,(Instr.lookup 94 (.map (some v)) (.string (V.B i).sym) false).run Tryz.prog (w.drewN n)=.ok (PP (V.bk i)) (w.drewN n):=fun n=>(R.ax ((aj.refl aA w).drewN n)).yJ M hlen
 have WQ:(Instr.lookup 94 (.map (some v)) (.string (V.B i).sym) false).run Tryz.prog w.drew=.ok (PP (V.bk i)) w.drew:=U 1;have v0:CC w bv 0 (.map (some v)):=R.cO.cell 0;have o2:w.cell? ⟨b,2,none⟩=some (.string (V.B i).sym):=by rw[<-mf];exact N.cell 2
 have HC:=ai (fun (a:World) (k:aj aA w a)=>vg (V.bk i) b (V.B i) V.om (fun x=>∃id,V.aV id=some x) q a ((R.ax k).sG M) ⟨id,u⟩);have HF:=ai (fun (a:World) (k:aj aA w a)=>kV (V.bk i) (V.B i) V.om (bI (V.om b)) s a ((R.ax k).aW i M) hs (by rw[show (bI (V.om b)).side=(V.om b).side from rfl,S,ht];omega));have P:Hid (∀a,aj aA w a->bV a b (V.om b) ix):=fun a k=>k.ay N idd
 have PN:Hid (∀a,Mk a (V.bk i) (V.B i) (aK V.om b (fD (V.om b) q)) (fun x=>∃id,V.aV id=some x)->CT 122 #[PP (V.bk i),PP b] a fun e w'=>∃fn F,e=.returned (.func fn #[] F)/\lq w' (V.bk i) b (V.om b).place a.heap.size fn F/\(∀x,xw (.func fn #[] F) x->x<a.heap.size+3) /\
  ∃g cap',Mk w' (V.bk i) ((V.B i).rest (bQ V i b q) t b g cap') (bQ V i b q) (fun x=>∃id,V.aV id=some x)/\aj (fun x=>x=V.bk i\/x=b\/dn (V.B i) t x) a w'/\(ig ((V.B i).sl t)=some g\/a.heap.size+3<=g)):=by
  intro a m;obtain⟨ix',ho'⟩:=m.bg b ⟨id,u⟩;refine (Fz (V.bk i) b t (V.B i) _ ix' a m.aW ho' (by omega) (by rw[ah];exact S) hnew hn).mono ?_;rintro e w' ⟨fn,F,rfl,hcl,G,g,cap',Y,k,D⟩;rw[ah]at Y hcl;exact⟨fn,F,rfl,hcl,G,g,cap',m.rest (by omega) ⟨id,u⟩ (fun x y=>by unfold bQ;rw[ag _ _ y]) Y k,k,D⟩
 have HN:Hid (∀a d f r p l j g cap',aj aA w a->aj (fun x=>x=b) a d->Mk d (V.bk i) (V.B i) (aK V.om b (fD (V.om b) q)) (fun x=>∃id,V.aV id=some x)->Mk f (V.bk i) ((V.B i).rest (bQ V i b q) t b g cap') (bQ V i b q) (fun x=>∃id,V.aV id=some x)->aj (fun x=>x=V.bk i\/x=b\/dn (V.B i) t x) d f->(ig ((V.B i).sl t)=some g\/d.heap.size+3<=g)->jT d b (V.om b) a.heap.size r p->lq f (V.bk i) b (V.om b).place d.heap.size l j->(∀x,xw (.func l #[] j) x->x<d.heap.size+3) ->
  CT 53 #[PP bv,.slice (some ⟨f.heap.size,0,none⟩) 2 2] (f.alloc (.cells #[.func r #[] p,.func l #[] j] 1)) fun e w'=>e=.returned (.tuple #[]) /\
   ∃g cap',Mk w' (V.bk i) ((V.B i).rest (bQ V i b q) t b g cap') (bQ V i b q) (fun x=>∃id,V.aV id=some x)/\vC bv v I V.lg V.lm bk o tq O dP (Jt w C g) [.fV b (V.om b),.eQ b (V.om b).place] w w'/\aj (fun x=>(x=V.bk i\/x=b\/dn (V.B i) t x)\/gK V.lm.av V.lm.ac x) w w'/\(ig ((V.B i).sl t)=some g\/w.heap.size<=g)):=by
  intro a d f r p l j g cap' kW z A T E D K L G;have h3:=(R.aO.ax kW).jG z (fun x h=>by subst h;exact⟨_,116,kW.ay N idd,.inr (.inl rfl)⟩);have W:=h3.jG E (fun x h=>A.gZ (by
   rcases h with h | h | h
   ·exact .inl h
   ·exact .inr (.inl ⟨id,by rw[h];exact u⟩)
   ·exact .inr (.inr ⟨t,by omega,h⟩)))
  have c3:=(X.ax kW).aC z (jQ ((R.ax kW).sG M) ⟨id,u⟩);have o4:nZ d o tq (fun x=>x=V.bk i\/x=b\/dn (V.B i) t x):=fun x h=>by
   rcases h with h | h | h
   ·exact E8 A x h
   ·exact jQ A ⟨id,u⟩ x h
   ·exact uf A (by omega) xy x (.inr h)
  have c4:=c3.aC E o4;have i3:bH d bv bk o (.fV b (V.om b)) (.func r #[] p):=⟨_,_,rfl,K.mono (by have:=kW.size;omega)⟩;have i3':=i3.aC (q:=tq) (fun h=>by cases h) E o4;have i4:bH f bv bk o (.eQ b (V.om b).place) (.func l #[] j):=⟨_,_,rfl,by
   show lq f (bk b) b _ o l j;rw[hbk];exact L.mono (by have:=kW.size;have:=z.size;omega)⟩
  have hgn:Jt w C g (C++[.func r #[] p,.func l #[] j]):=⟨_,rfl,fun c Z x y=>by
   have hcb:w.heap.size<=x/\x<d.heap.size+3:=by
    simp only[List.mem_cons,List.not_mem_nil,or_false]at Z;rcases Z with h | h
    ·subst h;have:=(show bH d bv bk w.heap.size (.fV b (V.om b)) (.func r #[] p) from ⟨_,_,rfl,K.mono kW.size⟩).cap y;omega
    ·subst h;exact⟨((show bH f bv (fun _=>V.bk i) w.heap.size (.eQ b (V.om b).place) (.func l #[] j) from ⟨_,_,rfl,L.mono (by have:=kW.size;have:=z.size;omega)⟩).cap y).1,G x y⟩
   refine⟨hcb.1,?_⟩;rcases D with h | h
   ·have:=xy g h;omega
   ·omega⟩
  refine (vP bv v I V.lg V.lm (.fV b (V.om b)) (.eQ b (V.om b).place) r l p j f bk o tq O dP C W c4 (fun h=>by cases h) (fun h=>by cases h) i3' i4 hna kX (by omega)).mono ?_;rintro e w' ⟨rfl,bG,a1,a2,a3,-,a5⟩;have kk3:=kW.aP.trans z;have kk:aj (fun x=>x=V.bk i\/x=b\/dn (V.B i) t x) w f:=(kk3.mono (fun _ h=>.inr (.inl h))).trans E;exact⟨rfl,g,cap',T.jw W (a3.mono (fun _ h=>xA h)),⟨bG,_,a1,fun x y=>(a2 x y).imp_right (fun h=>Nat.le_trans kk.size h),a5,hgn⟩,(kk.mono (fun _ h=>.inl h)).trans (a3.mono (fun _ h=>.inr h)),D.imp_right (fun h=>by have:=kk3.size;omega)⟩
 have Y0:=ai hf;have J:decide (0<(V.om b).aH)=false:=by simp[h0]
 obtain⟨HE0,HR⟩:=aZ J hr;clear X xy R u mf S hf N hs h0 J hr hnew hn;go_enter Tryz.func75,Tryz.ntmps75;go_wp2;go_quiet (fail);have H:aj aA w (w.drewN nq):=(aj.refl aA w).drewN _;obtain⟨w1,hw1⟩:=gy (w.drewN nq);rw[<-hw1]at H ⊢;clear hw1 U WQ v0 o2;go_wp2_with fail;refine (qN b _ ix w1 (ae P w1 H)).mono ?_;rintro e w1' ⟨rfl,VO⟩;rw[VO];clear VO w1';rw[ae HR];have hoc:=ae P _ H;obtain⟨Xa,VC,Xb,Xc,Xd,Xe,Xf⟩:=hoc.c7;clear hoc;go_wp2_with fail;refine (ae HF _ H).mono ?_;rintro e w2 ⟨rfl,k2⟩;rw[ae Y0];simp only[ja];have Q:=H.trans k2;have o8:CC w2 b 8 (II (V.om b).aH):=(ae P _ Q).cell 8;have J:=ae HE0;clear Xa VC Xb Xc Xd Xe Xf;go_wp2_with fail;refine (ae HC _ Q).mono ?_;rintro e d ⟨r,p,rfl,K,A,z⟩;clear o8 J;go_wp2_with fail;refine (ae PN d A).mono ?_;rintro e f ⟨l,j,rfl,L,G,g,cap',T,E,D⟩;go_wp2_with fail;refine (ae HN _ d f r p l j g cap' Q z A T E D K L G).mono ?_;rintro e wz ⟨rfl,rz⟩;go_wp2;go_end0;exact⟨rfl,rz⟩
theorem zi(bv z H i b s t k:Nat)(V:aS)(id q:Int)(w:World)(bk:Nat->Nat)(o:Nat)(tq:Bool)(M:List (List Value))(dP:List Nat)(I:List Value)(hC:iy w bv bk o tq M V.lg.nt dP V.lm I)(TP:o<=w.heap.size)(hbk:bk b=V.bk i)(xy:∀g,ig ((V.B i).sl t)=some g->g<o)(R:dL w bv z H V)(J:i<V.nb)(E:V.aV id=some b)(mf:(V.om b).sym=(V.B i).sym)(hlen:(V.B i).sym.size<=maxLen)(hs:s<2)(ht:t=1-s)(hside:(V.om b).side=(t:Int))
 (hr:dS (V.om b).kind=true) (hf:dA (V.B i) V.om (bI (V.om b)) s=none) (h0:0<(V.om b).aH) (X:k<(V.B i).n t) (P:(V.B i).h t k=b) (hn:(V.B i).n t<1000) (hna:0<V.lg.na) (kX:V.lg.na<=3000000) (hnt:V.lg.nt.length+3<1000000000) :
 CT 75 #[PP bv,PP b,II q,.bool true] w fun e w'=>e=.returned (.tuple #[]) /\
  ∃g cap',Mk w' (V.bk i) (((V.B i).leave V.om t k).rest (bQ V i b q) t b g cap') (bQ V i b q) (fun x=>∃id,V.aV id=some x)/\vC bv z H V.lg V.lm bk o tq M dP (Jt w I g) [.left b,.fV b (V.om b),.eQ b (V.om b).place] w w'/\aj (fun x=>(x=V.bk i\/x=b\/dn (V.B i) t x)\/gK V.lm.av V.lm.ac x) w w'/\(ig ((V.B i).sl t)=some g\/w.heap.size<=g):=by
 obtain⟨-,ix,ho⟩:=R.bg id b E;have t2:t<2:=by omega
 have L1:∀n,(Instr.lookup 94 (.map (some z)) (.string (V.B i).sym) false).run Tryz.prog (w.drewN n)=.ok (PP (V.bk i)) (w.drewN n):=fun n=>(R.ax ((aj.refl aA w).drewN n)).yJ J hlen
 have WQ:(Instr.lookup 94 (.map (some z)) (.string (V.B i).sym) false).run Tryz.prog w.drew=.ok (PP (V.bk i)) w.drew:=L1 1;have v0:CC w bv 0 (.map (some z)):=R.cO.cell 0;have o2:w.cell? ⟨b,2,none⟩=some (.string (V.B i).sym):=by rw[<-mf];exact ho.cell 2
 have hinj:qX ((V.B i).n t) ((V.B i).h t):=((R.aW i J).side t t2).inj;have sub:∀x,dn ((V.B i).leave V.om t k) t x->dn (V.B i) t x:=by
  rintro x (h | ⟨l,Q,e⟩)
  ·exact .inl h
  ·obtain⟨k',hk',e',_⟩:=pz (om:=V.om) hinj X l Q;exact .inr ⟨k',hk',by rw[e,e']⟩
 have Wx:=ai (fun (a:World) (G:aj aA w a)=>qJ (V.bk i) (V.B i) V.om (fun x=>∃id,V.aV id=some x) t k a ((R.ax G).sG J) t2 X (by rw[P];exact hside));have HC:=ai (fun (a:World) (m:Mk a (V.bk i) ((V.B i).leave V.om t k) V.om (fun x=>∃id,V.aV id=some x))=>vg (V.bk i) b _ V.om _ q a m ⟨id,E⟩);have HF:=ai (fun (a:World) (k:aj aA w a)=>kV (V.bk i) (V.B i) V.om (bI (V.om b)) s a ((R.ax k).aW i J) hs (by rw[show (bI (V.om b)).side=(V.om b).side from rfl,hside,ht];omega));have HO:Hid (∀a,aj aA w a->bV a b (V.om b) ix):=fun a k=>k.ay ho idd
 have hnew:∀x,x<2->∀l,l<((V.B i).leave V.om t k).n x->((V.B i).leave V.om t k).h x l≠b:=by
  intro x f l Q;by_cases e:x=t
  ·subst e;obtain⟨k',_,e',hne⟩:=pz (om:=V.om) hinj X l Q;rw[e',<-P];exact hne
  ·simp only[Bk.leave,ag _ _ e]at Q ⊢;rw[<-P];have hd:=(R.aW i J).vI;have:(x=0/\t=1)\/(x=1/\t=0):=by omega
   rcases this with⟨rfl,rfl⟩ | ⟨rfl,rfl⟩
   ·exact hd l k Q X
   ·exact fun e=>hd k l X Q e.symm
 have PN:Hid (∀a,Mk a (V.bk i) ((V.B i).leave V.om t k) (aK V.om b (fD (V.om b) q)) (fun x=>∃id,V.aV id=some x)->CT 122 #[PP (V.bk i),PP b] a fun e w'=>∃fn r,e=.returned (.func fn #[] r)/\lq w' (V.bk i) b (V.om b).place a.heap.size fn r/\(∀x,xw (.func fn #[] r) x->x<a.heap.size+3) /\
  ∃g cap',Mk w' (V.bk i) (((V.B i).leave V.om t k).rest (bQ V i b q) t b g cap') (bQ V i b q) (fun x=>∃id,V.aV id=some x)/\aj (fun x=>x=V.bk i\/x=b\/dn ((V.B i).leave V.om t k) t x) a w'/\(ig ((V.B i).sl t)=some g\/a.heap.size+3<=g)):=by
  intro a m;obtain⟨ix',ho'⟩:=m.bg b ⟨id,E⟩;refine (Fz (V.bk i) b t ((V.B i).leave V.om t k) _ ix' a m.aW ho' t2 (by rw[ah];exact hside) hnew (by simp only[Bk.leave,ah];omega)).mono ?_;rintro e w' ⟨fn,r,rfl,hcl,W,g,cap',hb,G,O⟩;rw[ah]at hb hcl;refine⟨fn,r,rfl,hcl,W,g,cap',m.rest (dG:=bQ V i b q) t2 ⟨id,E⟩ (fun x f=>by unfold bQ;rw[ag _ _ f]) hb G,G,O⟩
 have PL:Hid (∀a d fn r,aj aA w a->aj (fun x=>x=V.bk i\/dn (V.B i) t x) a d->Mk d (V.bk i) ((V.B i).leave V.om t k) V.om (fun x=>∃id,V.aV id=some x)->jr d (V.bk i) b a.heap.size fn r ->
  CT 53 #[PP bv,.slice (some ⟨d.heap.size,0,none⟩) 1 1] (d.alloc (.cells #[.func fn #[] r] 1)) fun e w'=>e=.returned (.tuple #[])/\Mk w' (V.bk i) ((V.B i).leave V.om t k) V.om (fun x=>∃id,V.aV id=some x) /\
   ∃j,bz w' bv z H (V.lg.aY [.left b]) j/\(∀x,j.F x->V.lm.F x\/w.heap.size<=x)/\(∀x,gK j.av j.ac x->gK V.lm.av V.lm.ac x\/w.heap.size<=x)/\aj (fun x=>(x=V.bk i\/x=b\/dn (V.B i) t x)\/gK V.lm.av V.lm.ac x) w w'/\∃A,iy w' bv bk o tq M (V.lg.aY [.left b]).nt dP j A/\PO w I A):=by
  intro a d fn r kW Z T N;have h3:=(R.aO.ax kW).jG Z (fun x h=>((R.ax kW).sG J).gZ (by
   rcases h with h | h
   ·exact .inl h
   ·exact .inr (.inr ⟨t,t2,h⟩)))
  have c3:=(hC.ax kW).aC Z (uf ((R.ax kW).sG J) t2 xy);have i3:bH d bv bk o (.left b) (.func fn #[] r):=⟨_,_,rfl,by
   show jr d (bk b) b o fn r;rw[hbk];exact N.mono (by have:=kW.size;omega)⟩
  refine (nV bv z H V.lg V.lm (.left b) fn r d bk o tq M dP I h3 c3 (fun h=>by cases h) i3 hna kX (by omega)).mono ?_;rintro e w' ⟨rfl,bG,a1,a2,a3,a4,a5⟩;have G:aj (fun x=>(x=V.bk i\/x=b\/dn (V.B i) t x)\/gK V.lm.av V.lm.ac x) w d:=kW.aP.trans (Z.mono (fun x h=>.inl (h.imp_right .inr)));exact⟨rfl,T.jw h3 (a3.mono (fun _ h=>xA h)),bG,a1,fun x f=>(a2 x f).imp_right (fun h=>Nat.le_trans G.size h),fun x f=>(a4 x f).imp_right (fun h=>Nat.le_trans G.size h),G.trans (a3.mono (fun _ h=>.inr h)),_,a5,[.func fn #[] r],rfl,fun c U x f=>by
   rw[List.mem_singleton]at U;subst U;exact (show bH d bv (fun _=>V.bk i) w.heap.size (.left b) (.func fn #[] r) from ⟨_,_,rfl,N.mono kW.size⟩).cap f |>.1⟩
 have HN2:Hid (∀d j A p y D C v u g cap',iy d bv bk o tq M (V.lg.aY [.left b]).nt dP j A->PO w I A->Mk d (V.bk i) ((V.B i).leave V.om t k) V.om (fun x=>∃id,V.aV id=some x)->bz d bv z H (V.lg.aY [.left b]) j->(∀x,j.F x->V.lm.F x\/w.heap.size<=x)->(∀x,gK j.av j.ac x->gK V.lm.av V.lm.ac x\/w.heap.size<=x)->aj (fun x=>(x=V.bk i\/x=b\/dn (V.B i) t x)\/gK V.lm.av V.lm.ac x) w d ->
  aj (fun x=>x=b) d p->Mk p (V.bk i) ((V.B i).leave V.om t k) (aK V.om b (fD (V.om b) q)) (fun x=>∃id,V.aV id=some x)->Mk y (V.bk i) (((V.B i).leave V.om t k).rest (bQ V i b q) t b g cap') (bQ V i b q) (fun x=>∃id,V.aV id=some x)->aj (fun x=>x=V.bk i\/x=b\/dn ((V.B i).leave V.om t k) t x) p y->(ig ((V.B i).sl t)=some g\/p.heap.size+3<=g)->jT p b (V.om b) d.heap.size D C->lq y (V.bk i) b (V.om b).place p.heap.size v u->(∀x,xw (.func v #[] u) x->x<p.heap.size+3) ->
  CT 53 #[PP bv,.slice (some ⟨y.heap.size,0,none⟩) 2 2] (y.alloc (.cells #[.func D #[] C,.func v #[] u] 1)) fun e w'=>e=.returned (.tuple #[])/\∃g cap',Mk w' (V.bk i) (((V.B i).leave V.om t k).rest (bQ V i b q) t b g cap') (bQ V i b q) (fun x=>∃id,V.aV id=some x)/\vC bv z H V.lg V.lm bk o tq M dP (Jt w I g) [.left b,.fV b (V.om b),.eQ b (V.om b).place] w w'/\aj (fun x=>(x=V.bk i\/x=b\/dn (V.B i) t x)\/gK V.lm.av V.lm.ac x) w w'/\(ig ((V.B i).sl t)=some g\/w.heap.size<=g)):=by
  intro d j A p y D C v u g cap' GM Xu T h3 N c3 Ht K L m5 S O f4 f5 W;have h4:=h3.jG K (fun x h=>by subst h;exact T.gZ (.inr (.inl ⟨id,E⟩)));have h5:=h4.jG S (fun x h=>L.gZ (by
   rcases h with h | h | h
   ·exact .inl h
   ·exact .inr (.inl ⟨id,by rw[h];exact E⟩)
   ·exact .inr (.inr ⟨t,t2,h⟩)))
  have sz3:=Ht.size;have ZO:=GM.aC K (jQ T ⟨id,E⟩);have o5:nZ p o tq (fun x=>x=V.bk i\/x=b\/dn ((V.B i).leave V.om t k) t x):=fun x h=>by
   rcases h with h | h | h
   ·exact E8 L x h
   ·exact jQ L ⟨id,E⟩ x h
   ·exact uf L t2 xy x (.inr h)
  have cu5:=ZO.aC S o5;have i4:bH p bv bk o (.fV b (V.om b)) (.func D #[] C):=⟨_,_,rfl,f4.mono (by omega)⟩;have i4':=i4.aC (q:=tq) (fun h=>by cases h) S o5;have i5:bH y bv bk o (.eQ b (V.om b).place) (.func v #[] u):=⟨_,_,rfl,by
   show lq y (bk b) b _ o v u;rw[hbk];exact f5.mono (by have:=K.size;omega)⟩
  have hgn:Jt w I g (A++[.func D #[] C,.func v #[] u]):=by
   obtain⟨nw,rfl,hnw⟩:=Xu;refine⟨nw++[.func D #[] C,.func v #[] u],by rw[List.append_assoc],fun c U x f=>?_⟩;have hcb:w.heap.size<=x/\x<p.heap.size+3:=by
    simp only[List.mem_append,List.mem_cons,List.not_mem_nil,or_false]at U;rcases U with h | h | h
    ·exact⟨hnw c h x f,by have:=ZO.cap (List.mem_append.2 (.inr h)) f;omega⟩
    ·subst h;have:=(show bH p bv bk w.heap.size (.fV b (V.om b)) (.func D #[] C) from ⟨_,_,rfl,f4.mono sz3⟩).cap f;omega
    ·subst h;exact⟨((show bH y bv (fun _=>V.bk i) w.heap.size (.eQ b (V.om b).place) (.func v #[] u) from ⟨_,_,rfl,f5.mono (by have:=K.size;omega)⟩).cap f).1,W x f⟩
   refine⟨hcb.1,?_⟩;rcases O with h | h
   ·have:=xy g h;omega
   ·omega
  refine (vP bv z H (V.lg.aY [.left b]) j (.fV b (V.om b)) (.eQ b (V.om b).place) D v C u y bk o tq M dP A h5 cu5 (fun h=>by cases h) (fun h=>by cases h) i4' i5 hna kX (by simp only[Lg.aY,List.length_append,List.length_cons,List.length_nil];omega)).mono ?_;rintro e w' ⟨rfl,bG,a1,a2,a3,-,a5⟩;rw[Io]at a1 a5;have J3:=Ht.trans (K.mono (fun x h=>.inl (.inr (.inl h))));have kc5:=J3.trans (S.mono (fun x h=>by
   rcases h with h | h | h
   ·exact .inl (.inl h)
   ·exact .inl (.inr (.inl h))
   ·exact .inl (.inr (.inr (sub x h)))))
  refine⟨rfl,g,cap',m5.jw h5 (a3.mono (fun _ h=>xA h)),⟨bG,_,a1,fun x f=>?_,a5,hgn⟩,kc5.from (a3.mono (fun x h=>(c3 x h).imp_left (fun h=>.inr h))),O.imp_right (fun h=>by have:=J3.size;omega)⟩;rcases a2 x f with h | h
  ·exact N x h
  ·exact .inr (Nat.le_trans kc5.size h)
 have Y0:=ai hf;have e0:decide (0<(V.om b).aH)=true:=by simp[h0]
 obtain⟨HE0,HR,HKB⟩:=fK e0 hr P;rw[P]at Wx;clear hC xy R E mf hside hf ho hs h0 e0 hr hnew hn P hinj sub;go_enter Tryz.func75,Tryz.ntmps75;go_wp2;go_quiet (fail);have Y:aj aA w (w.drewN nq):=(aj.refl aA w).drewN _;obtain⟨w1,hw1⟩:=gy (w.drewN nq);rw[<-hw1]at Y ⊢;clear hw1 L1 WQ v0 o2;go_wp2_with fail;refine (qN b _ ix w1 (ae HO w1 Y)).mono ?_;rintro e w1' ⟨rfl,VO⟩;rw[VO];clear VO w1';rw[ae HR];have hoc:=ae HO _ Y;obtain⟨Xa,VC,Xb,Xc,Xd,Xe,Xf⟩:=hoc.c7;clear hoc;go_wp2_with fail;refine (ae HF _ Y).mono ?_;rintro e w2 ⟨rfl,k2⟩;rw[ae Y0];simp only[ja];have hq2:=Y.trans k2;have o8:CC w2 b 8 (II (V.om b).aH):=(ae HO _ hq2).cell 8;have e0:=ae HE0;clear Xa VC Xb Xc Xd Xe Xf;go_wp2_with fail;refine (ae Wx _ hq2).mono ?_;rintro e d ⟨fn3,cp3,rfl,N,T,Z⟩;clear o8 e0;go_wp2_with fail;refine (ae PL _ d fn3 cp3 hq2 Z T N).mono ?_;rintro e w3' ⟨rfl,m3',j,h3',f3',c3',ab6,A,GM,Xu⟩;go_wp2_with fail;refine (ae HC _ m3').mono ?_;rintro e p ⟨D,C,rfl,f4,L,K⟩;go_wp2_with fail;refine (ae PN p L).mono ?_;rintro e y ⟨v,u,rfl,f5,W,g,cap',m5,S,O⟩;go_wp2_with fail;refine (ae HN2 w3' j A p y D C v u g cap' GM Xu m3' h3' f3' c3' ab6 K L m5 S O f4 f5 W).mono ?_;rintro e wz ⟨rfl,rz⟩;go_wp2;go_end0;exact⟨rfl,rz⟩
end Go.Proofs.YtigaphnafnpfnaaGreatDoor
