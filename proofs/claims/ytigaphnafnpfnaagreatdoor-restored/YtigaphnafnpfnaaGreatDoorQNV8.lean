import Derived.Test.YtigaphnafnpfnaaGreatDoorQNV7
import Derived.Test.YtigaphnafnpfnaaGreatDoorQNM2
set_option linter.unusedVariables false
set_option linter.unusedSimpArgs false
set_option maxHeartbeats 8000000
set_option maxRecDepth 100000
namespace Go.Proofs.YtigaphnafnpfnaaGreatDoor
open Go.RowKit Go.Maps
attribute [local go_sem ↓] Go.wp_at_zero Go.wp_at_succ
theorem oK(bv bm bo:Nat)(G:Lg)(m:Lm)(line:ByteArray)(w:World)(hL:bG w bv bm bo G m)(hna:G.ud+G.na<3000000)(h0:0<line.size)(hl:line.size<=290)(hpl:G.pl=line) :
 ∀W,aj aJ w W->CT 51 #[PP bv,.string line] W fun e w'=>e=.returned (.tuple #[]) /\
  ∃m',bG w' bv bm bo G.begun m'/\(∀b,m'.F b->m.F b\/w.heap.size<=b)/\aj (fun b=>b=bv\/m.F b) w w'/\(m'.tb=m.tb/\m'.tv=m.tv)/\aj (fun b=>b=bv\/m.av.ownBlock=some b\/m.jv.ownBlock=some b) w w'/\m'.ac.map Prod.snd=m.ac.map Prod.snd++[[]]:=by
 intro W k;refine (Ov bv bm bo G m line W (hL.aB k) hna h0 hl hpl).mono ?_;rintro e w' ⟨rfl,m',h1,h2,h3,h4,h5⟩;have k2:aj (fun b=>b=bv\/m.av.ownBlock=some b\/m.jv.ownBlock=some b) w w':=k.bI.trans h3;exact⟨rfl,m',h1,fun b hb=>(h2 b hb).imp_right (fun h=>Nat.le_trans k.size h),k2.mono (fun b h=>h.imp_right (fun h=>h.elim (fun h=>jZ h) (fun h=>.inr (.inl (.inr h))))),h4,k2,h5⟩
theorem iw.begun{w:World}{bv:Nat}{bk:Nat->Nat}{lo:Nat}{q:Bool}{G:Lg}{m m':Lm}(htb:m'.tb=m.tb/\m'.tv=m.tv)(hac:m'.ac.map Prod.snd=m.ac.map Prod.snd++[[]]):iw w bv bk lo q (m.ac.map Prod.snd) G.begun.nt m.tb m' []:=by
 refine⟨htb.1,hac,rfl,fun d hd=>?_,fun j d c hd=>?_,fun d hd=>?_⟩
 ·simp[Lg.begun]at hd
 ·simp[Lg.begun]at hd
 ·simp[Lg.begun]at hd
def Fv(bv bm bo:Nat)(G:Lg)(lm:Lm)(bk:Nat->Nat)(q:Bool)(ds:List dY)(w w':World):Prop :=
 ∃bM,bG w' bv bm bo (G.begun.aX ds) bM/\(∀x,bM.F x->lm.F x\/w.heap.size<=x)/\∃cl,iw w' bv bk w.heap.size q (lm.ac.map Prod.snd) (G.begun.aX ds).nt lm.tb bM cl
theorem SB(bv bm bo i s k:Nat)(V:aS)(id:Int)(w:World)(bk:Nat->Nat)(hbk:bk ((V.B i).h s k)=V.bk i)(R:dS w bv bm bo V)(hT:kP w)(hid:(Lit.int .i64 id).wf=true)(hi:i<V.nb)(hs:s<2)(hk:k<(V.B i).n s)(hn:V.aW id=some ((V.B i).h s k))(h0:(V.om ((V.B i).h s k)).aO≠0)
 (hside:(V.om ((V.B i).h s k)).side=(s:Int)) (dR:(V.om ((V.B i).h s k)).sym=(V.B i).sym) (hlen:(V.B i).sym.size<=maxLen) (hna:V.lg.ud+V.lg.na<3000000) (hpl:Hid (V.lg.pl=fJ (fun _=>id) ⟨#[99,97,110,99,101,108]⟩ 1)) :
 CT 37 #[PP bv,II id] w fun e w'=>e=.returned (II 0) /\
  Mk w' (V.bk i) ((V.B i).leave V.om s k) (aQ V.om ((V.B i).h s k) (gz (V.om ((V.B i).h s k)))) (fun x=>∃id,V.aW id=some x)/\Fv bv bm bo V.lg V.lm bk true [.left ((V.B i).h s k),.gp ((V.B i).h s k) (V.om ((V.B i).h s k))] w w'/\aj (fun x=>x=bv\/V.lm.F x\/x=V.bk i\/dG (V.B i) s x) w w':=by
 have L2:=R.xO hid;rw[hn]at L2;simp only[ji]at L2;obtain⟨_,ix,ho⟩:=R.bz id _ hn;have o8:CC w ((V.B i).h s k) 8 (II (V.om ((V.B i).h s k)).aO):=ho.cell 8;have e0:((V.om ((V.B i).h s k)).aO == 0)=false:=by simp[h0]
 have v1:CC w bv 1 (.map (some bo)):=R.dC.cell 1;have Bl:=rP ⟨#[99,97,110,99,101,108]⟩ (fun _=>id) 1 w hT (by decide) (by decide) (by omega) (fun _ _=>bounds_i64 hid);generalize fJ (fun _=>id) ⟨#[99,97,110,99,101,108]⟩ 1=ln at Bl hpl;have nY:=au (oK bv bm bo V.lg V.lm ln w R.aP hna Bl.1.1 Bl.1.2 (ae hpl));have Yi:=au Bl.2;clear Bl;obtain⟨HR,HN,RP,HSd⟩:=pJ R hn dR hside;clear R hn ho h0 dR hside;go_enter Tryz.func37,Tryz.ntmps37;go_wp2_with fail;refine (ae Yi _ ((aj.refl aJ w).alloc _) _ _ (fun i hi=>by obtain rfl:i=0:=(by omega);exact (aA.new w _ _).cell 0)).mono ?_;rintro e wl ⟨rfl,kl⟩;have Ij:=au kl;clear kl;go_wp2_with fail;refine (ae nY _ (ae Ij)).mono ?_;rintro e wb ⟨rfl,l9,hLb,sW,kb,htb,-,hac⟩;clear Yi Ij;clear L2 o8 e0 v1;have Rb:=(ae HR).jM hLb kb;have hnb:({ V with lg:=V.lg.begun,lm:=l9 }:aS).aW id=some ((V.B i).h s k):=ae HN;obtain⟨_,ix,ho⟩:=Rb.bz id _ hnb;have o2:wb.cell? ⟨(V.B i).h s k,2,none⟩=some (.string (V.B i).sym):=by rw[<-ae RP];exact aA.cell ho 2
 have v0:CC wb bv 0 (.map (some bm)):=Rb.dC.cell 0;have L1:(Instr.lookup 94 (.map (some bm)) (.string (V.B i).sym) false).run Tryz.prog wb=.ok (PP (V.bk i)) wb:=Rb.BN hi hlen;have Zo:(Instr.lookup 94 (.map (some bm)) (.string (V.B i).sym) false).run Tryz.prog wb.drew=.ok (PP (V.bk i)) wb.drew:=Rb.Nu hi hlen 1;have HL:=au (fun q=>qJ (V.bk i) (V.B i) V.om (fun x=>∃id,V.aW id=some x) s k (wb.drewN q) ((Rb.aB ((aj.refl aJ wb).drewN q)).tu hi) hs hk (ae HSd));have HC:=au (fun (W:World) (m:Mk W (V.bk i) ((V.B i).leave V.om s k) V.om (fun x=>∃id,V.aW id=some x))=>mV (V.bk i) ((V.B i).h s k) ((V.B i).leave V.om s k) V.om _ W m ⟨id,ae HN⟩);have rZ:Hid (∀q w2 w3 uN cp2 oP cp3,Mk w2 (V.bk i) ((V.B i).leave V.om s k) V.om (fun x=>∃id,V.aW id=some x)->aj (fun x=>x=V.bk i\/dG (V.B i) s x) (wb.drewN q) w2->Mk w3 (V.bk i) ((V.B i).leave V.om s k) (aQ V.om ((V.B i).h s k) (gz (V.om ((V.B i).h s k)))) (fun x=>∃id,V.aW id=some x)->aj (fun x=>x=(V.B i).h s k) w2 w3->jo w2 (V.bk i) ((V.B i).h s k) (wb.drewN q).heap.size uN cp2->jS w3 ((V.B i).h s k) (V.om ((V.B i).h s k)) w2.heap.size oP cp3 ->
  CT 53 #[PP bv,.slice (some ⟨w3.heap.size,0,none⟩) 2 2] (w3.alloc (.cells #[.func uN #[] cp2,.func oP #[] cp3] 1)) fun e w'=>e=.returned (.tuple #[]) /\
   Mk w' (V.bk i) ((V.B i).leave V.om s k) (aQ V.om ((V.B i).h s k) (gz (V.om ((V.B i).h s k)))) (fun x=>∃id,V.aW id=some x)/\Fv bv bm bo V.lg V.lm bk true [.left ((V.B i).h s k),.gp ((V.B i).h s k) (V.om ((V.B i).h s k))] w w'/\aj (fun x=>x=bv\/V.lm.F x\/x=V.bk i\/dG (V.B i) s x) w w'):=by
  intro q w2 w3 uN cp2 oP cp3 m2 k2 m3 k3 f2 f3;have h2:=(hLb.aB ((aj.refl aJ wb).drewN q)).jF k2 (fun x h=>((Rb.aB ((aj.refl aJ wb).drewN q)).tu hi).gK (by
   rcases h with h | h
   ·exact .inl h
   ·exact .inr (.inr ⟨s,hs,h⟩)))
  have h3:=h2.jF k3 (fun x h=>by subst h;exact m2.gK (.inr (.inl ⟨id,ae HN⟩)));have hd:aj aJ wb (wb.drewN q):=(aj.refl aJ wb).drewN q;have mb:=(Rb.aB hd).tu hi;have uP:∀g,ig ((V.B i).sl s)=some g->g<w.heap.size:=fun g hg=>(((ae HR).aY i hi).side s hs).lt hg
  have cb:iw wb bv bk w.heap.size true (V.lm.ac.map Prod.snd) V.lg.begun.nt V.lm.tb l9 []:=iw.begun htb hac;have o2:nP (wb.drewN q) w.heap.size true (fun x=>x=V.bk i\/dG (V.B i) s x):=uo mb hs uP;have o3:nP w2 w.heap.size true (fun x=>x=(V.B i).h s k):=jL m2 ⟨id,ae HN⟩;have c3:=((cb.aB hd).aC k2 o2).aC k3 o3;have szb:=kb.size;have i2:bU w2 bv bk w.heap.size (.left ((V.B i).h s k)) (.func uN #[] cp2):=⟨_,_,rfl,by
   show jo w2 (bk ((V.B i).h s k)) ((V.B i).h s k) _ uN cp2;rw[hbk];exact f2.mono (by have:=hd.size;omega)⟩
  have i2':=i2.aC (q:=true) (fun _=>rfl) k3 o3;have i3:bU w3 bv bk w.heap.size (.gp ((V.B i).h s k) (V.om ((V.B i).h s k))) (.func oP #[] cp3):=⟨_,_,rfl,f3.mono (by have:=hd.size;have:=k2.size;omega)⟩;refine (wJ bv bm bo _ l9 (.left ((V.B i).h s k)) (.gp ((V.B i).h s k) (V.om ((V.B i).h s k))) uN oP cp2 cp3 w3 bk w.heap.size true _ _ _ h3 c3 (fun _=>rfl) (fun _=>rfl) i2' i3 (by show 0<V.lg.na+1;omega) (by show V.lg.na+1<=3000000;omega) (by show 0+2<1000000000;omega)).mono ?_;rintro e w' ⟨rfl,bM,a1,a2,a3',-,a5⟩;have a3:aj (fun x=>l9.F x) w3 w':=a3'.mono (fun b h=>DR h);have kb':aj (fun x=>x=bv\/V.lm.F x\/x=V.bk i\/dG (V.B i) s x) w wb:=kb.mono (fun x h=>h.imp_right .inl);have Ea:=(kb'.drewN q).trans ((k2.mono (fun x h=>.inr (.inr h))).trans (k3.mono (fun x h=>QF ⟨k,hk,h⟩)));refine⟨rfl,m3.jw h3 (a3.mono (fun _ h=>.inr h)),⟨bM,a1,fun x hx=>?_,_,a5⟩,Ea.from (a3.mono (fun x h=>(sW x h).imp_left (fun h=>.inr (.inl h))))⟩;rcases a2 x hx with h | h
  ·exact sW x h
  ·exact .inr (Nat.le_trans Ea.size h)
 clear ho hnb Rb hLb sW kb htb hac nY HR RP HSd HN;go_wp2;go_region_with (first | (go_at_call 66;refine (ae HL _).mono ?_;rintro e w2 ⟨uN,cp2,rfl,f2,m2,c2⟩) | (go_at_call 67;refine (ae HC _ m2).mono ?_;rintro e w3 ⟨oP,cp3,rfl,f3,m3,c3⟩) | (go_at_call 53;refine (ae rZ _ w2 w3 uN cp2 oP cp3 m2 c2 m3 c3 f2 f3).mono ?_;rintro e w4 ⟨rfl,r4⟩))
 all_goals
  go_wp2;go_ret;exact⟨rfl,r4⟩
theorem Qo.mono{M M':Int}{o:Ord}(h:Qo M o)(hm:M<=M'):Qo M' o:=⟨h.sum,h.o0,h.f0,h.c0,h.e0,by have:=h.hi;omega⟩
theorem wF{B:Bk}{om:Nat->Ord}{sym:ByteArray}{L:Nat->Prop}(h:GB B om sym L){s k:Nat}(hs:s<2)(hk:k<B.n s):GB (B.leave om s k) om sym (fun x=>L x/\x≠B.h s k):=by
 have other:∀y,y≠s->(B.leave om s k).n y=B.n y/\(B.leave om s k).h y=B.h y:=fun y hy=>by simp only[Bk.leave];rw[ah _ _ hy,ah _ _ hy];exact⟨rfl,rfl⟩
 have iff:=lK (om:=om) (h.inj s hs) hk;have ne:∀y,y<2->y≠s->∀x,Mem (B.n y) (B.h y) x->x≠B.h s k:=fun y hy hne x hx e=>by
  have a:=((h.mem y hy x).1 hx).2.2.1;have b:=((h.mem s hs _).1 ⟨k,hk,rfl⟩).2.2.1;rw[e,b]at a;omega
 have sub:∀y,y<2->∀x,Mem ((B.leave om s k).n y) ((B.leave om s k).h y) x->Mem (B.n y) (B.h y) x:=fun y hy x hx=>by
  by_cases e:y=s
  ·rw[e]at hx ⊢;exact ((iff x).1 hx).1
  ·rw[(other y e).1,(other y e).2]at hx;exact hx
 refine⟨h.lL,fun y hy x=>?_,fun y hy=>?_,fun y hy=>?_,fun x y hx hy=>h.iE x y (sub 0 (by omega) x hx) (sub 1 (by omega) y hy)⟩
 ·by_cases e:y=s
  ·rw[e,iff x,h.mem s hs x];exact⟨fun ⟨⟨a,b⟩,c⟩=>⟨⟨a,c⟩,b⟩,fun ⟨⟨a,c⟩,b⟩=>⟨⟨a,b⟩,c⟩⟩
  ·rw[(other y e).1,(other y e).2];constructor
   ·intro hx;obtain⟨a,b⟩:=(h.mem y hy x).1 hx;exact⟨⟨a,ne y hy e x hx⟩,b⟩
   ·rintro⟨⟨a,_⟩,b⟩;exact (h.mem y hy x).2 ⟨a,b⟩
 ·by_cases e:y=s
  ·rw[e];exact wG rfl (fun k hk=>h.side hs hk) (h.heap s hs) hk
  ·rw[(other y e).1,(other y e).2];exact h.heap y hy
 ·by_cases e:y=s
  ·rw[e];have h0:ry (B.n s-1+1) (B.h s):=by rw[show B.n s-1+1=B.n s by omega];exact h.inj s hs
   simp only[Bk.leave,ai];exact fun a b ha hb e=>(h0.qp (lt:=fP om) (i:=k) (by omega)) a b (by omega) (by omega) e
  ·rw[(other y e).1,(other y e).2];exact h.inj y hy
def VL(V:aS)(x:Nat):Prop:=∃id,V.aW id=some x
structure GW(V:aS)(M:Int):Prop where
 gb:∀i,i<V.nb->GB (V.B i) V.om (V.B i).sym (VL V)
 lW:∀i j,i<V.nb->j<V.nb->(V.B i).sym=(V.B j).sym->i=j
 q:∀x,VL V x->Qo M (V.om x)
 sym:∀x,VL V x->∃i,i<V.nb/\(V.om x).sym=(V.B i).sym
 side:∀x,VL V x->(V.om x).side=0\/(V.om x).side=1
theorem AX{BB:Nat->Bk}{nb:Nat}{nm:Nat->ByteArray}(lW:∀i j,i<nb->j<nb->nm i=nm j->i=j){i oc s t g cap':Nat}{B0:Bk}{nK:Nat->Ord}{lg:Lg}{L:Nat->Prop}{M:Int}(hM:M<=1000000000000000)(hi:i<nb)(hs:s<2)(ht:t=1-s)(hL:L oc)(dR:(nK oc).sym=nm i)(hside:(nK oc).side=(t:Int))(hq:∀x,L x->Qo M (nK x))
 (gi:GB B0 nK (nm i) (fun x=>L x/\x≠oc)) (gj:∀j,j<nb->j≠i->GB (BB j) nK (nm j) L) :
 (∀j,j<nb->GB (aQ BB i (eu oc t g cap' (mF oc s ⟨B0,nK,lg⟩)) j) (aH oc (mF oc s ⟨B0,nK,lg⟩)) (nm j) L)/\(∀x,L x->Qo M (aH oc (mF oc s ⟨B0,nK,lg⟩) x))/\PH oc s M ⟨B0,nK,lg⟩ (mF oc s ⟨B0,nK,lg⟩) /\
  (∀x,(aH oc (mF oc s ⟨B0,nK,lg⟩) x).sym=(nK x).sym/\(aH oc (mF oc s ⟨B0,nK,lg⟩) x).side=(nK x).side)/\sV oc s ⟨B0,nK,lg⟩:=by
 obtain⟨iv,g1,g2,run,dN,bJ⟩:=PT (g:=g) (cap':=cap') (lg:=lg) hM hs ht hL dR hside hq gi;have sy:∀x,(aH oc (mF oc s ⟨B0,nK,lg⟩) x).sym=(nK x).sym/\(aH oc (mF oc s ⟨B0,nK,lg⟩) x).side=(nK x).side:=fun x=>by
  by_cases e:x=oc
  ·have h1:=run.dN oc;rw[e];unfold aH;split
   ·rw[ai];exact⟨h1.2.2.1,h1.2.2.2.1⟩
   ·rw[ai];exact⟨h1.2.2.1,h1.2.2.2.1⟩
  ·exact⟨(dN x e).2.2.1,(dN x e).2.2.2.1⟩
 refine⟨fun j hj=>?_,g2,run,sy,iv⟩;by_cases e:j=i
 ·rw[e,ai];exact g1
 ·rw[ah _ _ e];have ns:nm j≠nm i:=fun h=>e (lW j i hj hi h)
  have same:∀x,(nK x).sym=nm j->aH oc (mF oc s ⟨B0,nK,lg⟩) x=nK x:=fun x hx=>bJ x (fun e2=>ns (by rw[<-hx,e2];exact dR)) (.inl (by rw[hx];exact ns))
  refine (gj j hj e).lQ (fun x=>?_) (fun x _ hx _=>by rw[same x hx];exact⟨rfl,rfl,rfl⟩);rw[(sy x).1];constructor
  ·rintro⟨a,b,c⟩;rw[same x b]at c;exact⟨a,b,c⟩
  ·rintro⟨a,b,c⟩;rw[same x b];exact⟨a,b,c⟩
theorem BX{o:iT}{M:Int}(h1:0<=o.aK)(h2:o.aK<=M):Qo M (aN o):=by
 refine⟨?_,h1,?_,?_,?_,h2⟩ <;> simp only[aN] <;> omega
theorem BQ{oc s:Nat}:∀(f:Nat) (st:MS),(aZ oc s f st).B.sym=st.B.sym:=by
 intro f
 induction f with
 | zero=>intro st;rfl
 | succ f ih =>
   intro st;rw[aZ];split
   ·rfl
   ·rw[ih];unfold bF;split
    ·rfl
    ·simp only[dU];split <;> rfl
theorem GW.enter{V:aS}{M:Int}(h:GW V M)(hM:M<=1000000000000000){i b s t g cap':Nat}{o:iT}{bM:Lm}(hi:i<V.nb)(hs:s<2)(ht:t=1-s)(dR:o.sym=(V.B i).sym)(hside:o.side=(t:Int))(hq1:0<=o.aK)(hq2:o.aK<=M)(hfree:V.aW o.id=none)(hb:¬VL V b) :
 GW (V.enter i b s t g cap' o bM) M/\PH b s M ⟨V.B i,aQ V.om b (aN o),V.lg.bf o.id⟩ (mF b s ⟨V.B i,aQ V.om b (aN o),V.lg.bf o.id⟩)/\sV b s ⟨V.B i,aQ V.om b (aN o),V.lg.bf o.id⟩/\(∀j,((V.enter i b s t g cap' o bM).B j).sym=(V.B j).sym)/\(∀x,VL (V.enter i b s t g cap' o bM) x↔(VL V x\/x=b))/\GB (V.B i) (aQ V.om b (aN o)) (V.B i).sym (fun x=>VL (V.enter i b s t g cap' o bM) x/\x≠b):=by
 have hBs:∀j,((V.enter i b s t g cap' o bM).B j).sym=(V.B j).sym:=fun j=>by
  simp only[aS.enter];by_cases e:j=i
  ·rw[e,ai,oD];unfold mF;rw[BQ]
  ·rw[ah _ _ e]
 have vM:∀x,VL (V.enter i b s t g cap' o bM) x↔(VL V x\/x=b):=fun x=>by
  constructor
  ·rintro⟨id,hx⟩;simp only[aS.enter]at hx;split at hx
   ·exact .inr (Option.some.inj hx).symm
   ·exact .inl ⟨id,hx⟩
  ·rintro (⟨id,hx⟩ | rfl)
   ·refine⟨id,?_⟩;simp only[aS.enter];rw[if_neg (fun e=>by rw[e,hfree]at hx;simp at hx)];exact hx
   ·exact⟨o.id,by simp[aS.enter]⟩
 have nK:∀x,VL V x->aQ V.om b (aN o) x=V.om x:=fun x hx=>ah _ _ (fun e=>hb (e▸hx))
 have gi:GB (V.B i) (aQ V.om b (aN o)) ((V.B i).sym) (fun x=>VL (V.enter i b s t g cap' o bM) x/\x≠b):=by
  refine (h.gb i hi).lQ (fun x=>?_) (fun x hx _ _=>by rw[nK x hx];exact⟨rfl,rfl,rfl⟩);rw[vM x];constructor
  ·rintro⟨⟨a | a,a'⟩,c⟩
   ·rw[nK x a]at c;exact⟨a,c⟩
   ·exact absurd a a'
  ·rintro⟨a,c⟩;rw[nK x a];exact⟨⟨.inl a,fun e=>hb (e▸a)⟩,c⟩
 have gj:∀j,j<V.nb->j≠i->GB (V.B j) (aQ V.om b (aN o)) ((V.B j).sym) (VL (V.enter i b s t g cap' o bM)):=fun j hj hne=>by
  refine (h.gb j hj).lQ (fun x=>?_) (fun x hx _ _=>by rw[nK x hx];exact⟨rfl,rfl,rfl⟩);rw[vM x];constructor
  ·rintro⟨a | a,c⟩
   ·rw[nK x a]at c;exact⟨a,c⟩
   ·rw[a,ai]at c;exact absurd (h.lW i j hi hj (dR.symm.trans c.1)) (fun e=>hne e.symm)
  ·rintro⟨a,c⟩;rw[nK x a];exact⟨.inl a,c⟩
 obtain⟨c1,c2,c3,c4,c5⟩:=AX h.lW (BB:=V.B) (g:=g) (cap':=cap') (lg:=V.lg.bf o.id) hM hi hs ht ((vM b).2 (.inr rfl)) (by rw[ai];exact dR) (by rw[ai];exact hside) (fun x hx=>by
  rcases (vM x).1 hx with a | a
  ·rw[nK x a];exact h.q x a
  ·rw[a,ai];exact BX hq1 hq2) gi gj
 refine⟨⟨fun j hj=>?_,fun a c ha hc e=>?_,c2,fun x hx=>?_,fun x hx=>?_⟩,c3,c5,hBs,vM,gi⟩
 ·rw[hBs j];exact c1 j hj
 ·rw[hBs a,hBs c]at e;exact h.lW a c ha hc e
 ·show ∃j,j<V.nb/\((aH b (mF b s ⟨V.B i,aQ V.om b (aN o),V.lg.bf o.id⟩)) x).sym=((V.enter i b s t g cap' o bM).B j).sym;rw[(c4 x).1];rcases (vM x).1 hx with a | a
  ·rw[nK x a];obtain⟨j,hj,e⟩:=h.sym x a;exact⟨j,hj,by rw[hBs j];exact e⟩
  ·rw[a,ai];exact⟨i,hi,by rw[hBs i];exact dR⟩
 ·show ((aH b (mF b s ⟨V.B i,aQ V.om b (aN o),V.lg.bf o.id⟩)) x).side=0\/((aH b (mF b s ⟨V.B i,aQ V.om b (aN o),V.lg.bf o.id⟩)) x).side=1;rw[(c4 x).2];rcases (vM x).1 hx with a | a
  ·rw[nK x a];exact h.side x a
  ·rw[a,ai];show o.side=0\/o.side=1;omega
theorem GW.Uj{V:aS}{M M':Int}(h:GW V M)(hM:M<=M'){b:Nat}{o':Ord}(hb:VL V b)(h1:o'.sym=(V.om b).sym)(h2:o'.side=(V.om b).side)(h3:o'.af=(V.om b).af)(h4:o'.place=(V.om b).place)(h5:0<o'.aO↔0<(V.om b).aO)(hq:Qo M' o')(i:Nat):GW (V.turn i (V.B i) (aQ V.om b o')) M':=by
 have hB:∀j,aQ V.B i (V.B i) j=V.B j:=fun j=>by
  by_cases e:j=i
  ·rw[e,ai]
  ·rw[ah _ _ e]
 have key:∀x,(aQ V.om b o' x).sym=(V.om x).sym/\(aQ V.om b o' x).side=(V.om x).side/\(aQ V.om b o' x).af=(V.om x).af/\(aQ V.om b o' x).place=(V.om x).place/\(0<(aQ V.om b o' x).aO↔0<(V.om x).aO):=fun x=>by
  by_cases e:x=b
  ·rw[e,ai];exact⟨h1,h2,h3,h4,h5⟩
  ·rw[ah _ _ e];exact⟨rfl,rfl,rfl,rfl,Iff.rfl⟩
 refine⟨fun j hj=>?_,fun a c ha hc e=>?_,fun x hx=>?_,fun x hx=>?_,fun x hx=>by show (aQ V.om b o' x).side=_\/(aQ V.om b o' x).side=_;rw[(key x).2.1];exact h.side x hx⟩
 ·show GB (aQ V.B i (V.B i) j) (aQ V.om b o') (aQ V.B i (V.B i) j).sym (VL V);rw[hB j];refine (h.gb j hj).lQ (fun x=>?_) (fun x _ _ _=>⟨(key x).2.1,(key x).2.2.1,(key x).2.2.2.1⟩);rw[(key x).1,(key x).2.2.2.2]
 ·simp only[aS.turn]at e;rw[hB a,hB c]at e;exact h.lW a c ha hc e
 ·show Qo M' (aQ V.om b o' x);by_cases e:x=b
  ·rw[e,ai];exact hq
  ·rw[ah _ _ e];exact (h.q x hx).mono hM
 ·obtain⟨j,hj,e⟩:=h.sym x hx;refine⟨j,hj,?_⟩;show (aQ V.om b o' x).sym=(aQ V.B i (V.B i) j).sym;rw[(key x).1,hB j];exact e
theorem GW.Us{V:aS}{M:Int}(h:GW V M){i s k:Nat}(hi:i<V.nb)(hs:s<2)(hk:k<(V.B i).n s){o':Ord}(h1:o'.sym=(V.om ((V.B i).h s k)).sym)(h2:o'.side=(V.om ((V.B i).h s k)).side)(h0:o'.aO=0)(hq:Qo M o'):GW (V.turn i ((V.B i).leave V.om s k) (aQ V.om ((V.B i).h s k) o')) M:=by
 have hm:=((h.gb i hi).mem s hs _).1 ⟨k,hk,rfl⟩;generalize hbb:(V.B i).h s k=b at *;have key:∀x,(aQ V.om b o' x).sym=(V.om x).sym/\(aQ V.om b o' x).side=(V.om x).side:=fun x=>by
  by_cases e:x=b
  ·rw[e,ai];exact⟨h1,h2⟩
  ·rw[ah _ _ e];exact⟨rfl,rfl⟩
 have hBs:∀j,(aQ V.B i ((V.B i).leave V.om s k) j).sym=(V.B j).sym:=fun j=>by
  by_cases e:j=i
  ·rw[e,ai];rfl
  ·rw[ah _ _ e]
 refine⟨fun j hj=>?_,fun a c ha hc e=>h.lW a c ha hc (by rw[<-hBs a,<-hBs c];exact e),fun x hx=>?_,fun x hx=>?_,fun x hx=>by show (aQ V.om b o' x).side=_\/(aQ V.om b o' x).side=_;rw[(key x).2];exact h.side x hx⟩
 ·show GB (aQ V.B i ((V.B i).leave V.om s k) j) (aQ V.om b o') (aQ V.B i ((V.B i).leave V.om s k) j).sym (VL V);rw[hBs j];have fin:∀{B:Bk} {L:Nat->Prop},GB B V.om ((V.B j).sym) L->(∀x,(VL V x/\(V.om x).sym=(V.B j).sym/\0<(V.om x).aO/\x≠b)↔(L x/\(V.om x).sym=(V.B j).sym/\0<(V.om x).aO))->GB B (aQ V.om b o') ((V.B j).sym) (VL V):=by
   intro B L hB hL;refine hB.lQ (fun x=>?_) (fun x a b' c=>?_)
   ·rw[(key x).1,<-hL x];constructor
    ·rintro⟨a,b',c⟩;have hne:x≠b:=fun e=>by rw[e,ai,h0]at c;omega
     rw[ah _ _ hne]at c;exact⟨a,b',c,hne⟩
    ·rintro⟨a,b',c,hne⟩;rw[ah _ _ hne];exact⟨a,b',c⟩
   ·have hne:x≠b:=((hL x).2 ⟨a,b',c⟩).2.2.2;rw[ah _ _ hne];exact⟨rfl,rfl,rfl⟩
  by_cases e:j=i
  ·rw[e,ai];have:=wF (h.gb i hi) hs hk;rw[hbb]at this;rw[e]at fin;exact fin this (fun x=>⟨fun ⟨a,b',c,d⟩=>⟨⟨a,d⟩,b',c⟩,fun ⟨⟨a,d⟩,b',c⟩=>⟨a,b',c,d⟩⟩)
  ·rw[ah _ _ e];refine fin (h.gb j hj) (fun x=>⟨fun ⟨a,b',c,d⟩=>⟨a,b',c⟩,fun ⟨a,b',c⟩=>⟨a,b',c,fun e2=>e ?_⟩⟩);rw[e2,hm.2.1]at b';exact (h.lW i j hi hj b').symm
 ·show Qo M (aQ V.om b o' x);by_cases e:x=b
  ·rw[e,ai];exact hq
  ·rw[ah _ _ e];exact h.q x hx
 ·obtain⟨j,hj,e⟩:=h.sym x hx;exact⟨j,hj,by show (aQ V.om b o' x).sym=(aQ V.B i ((V.B i).leave V.om s k) j).sym;rw[(key x).1,hBs j];exact e⟩
theorem UY:∀(m n:Nat) (f:Nat->Nat),(∀a b,a<n->b<n->f a=f b->a=b)->(∀k,k<n->f k<m)->n<=m:=by
 intro m
 induction m with
 | zero =>
   intro n f _ h;rcases Nat.eq_zero_or_pos n with h0 | h0
   ·omega
   ·exact absurd (h 0 h0) (Nat.not_lt_zero _)
 | succ m ih =>
   intro n f hi h;rcases Nat.eq_zero_or_pos n with h0 | h0
   ·omega
   ·
    obtain⟨n',rfl⟩:∃n',n=n'+1:=⟨n-1,by omega⟩;have key:n'<=m:=by
     refine ih n' (fun k=>if f k=m then f n' else f k) (fun a b ha hb e=>?_) (fun k hk=>?_)
     ·by_cases e1:f a=m <;> by_cases e2:f b=m
      ·exact hi a b (by omega) (by omega) (e1.trans e2.symm)
      ·rw[if_pos e1,if_neg e2]at e;exact absurd (hi n' b (by omega) (by omega) e) (by omega)
      ·rw[if_neg e1,if_pos e2]at e;exact absurd (hi a n' (by omega) (by omega) e) (by omega)
      ·rw[if_neg e1,if_neg e2]at e;exact hi a b (by omega) (by omega) e
     ·have hk1:=h k (by omega);have hn1:=h n' (by omega);split
      ·rename_i e1;have:f n'≠m:=fun e2=>by
        have:=hi k n' (by omega) (by omega) (e1.trans e2.symm);omega
       omega
      ·omega
    omega
theorem Ny{oc s:Nat}:∀(f:Nat) (st:MS),(aZ oc s f st).lg.tr.length<=st.lg.tr.length+f/\(aZ oc s f st).lg.tp.length<=st.lg.tp.length+f:=by
 intro f
 induction f with
 | zero=>intro st;exact⟨Nat.le_refl _,Nat.le_refl _⟩
 | succ f ih =>
   intro st;rw[aZ];split
   ·exact⟨by omega,by omega⟩
   ·have h:=ih (bF oc s st);have e:(bF oc s st).lg.tr.length<=st.lg.tr.length+1/\(bF oc s st).lg.tp.length<=st.lg.tp.length+1:=by
     unfold bF;split
     ·simp only[Lg.aX];exact⟨by omega,by omega⟩
     ·simp[Lg.jT,Lg.told,Lg.aC,Lg.aX,gW,oH]
    omega
theorem Nw{oc s:Nat}{st:MS}:(mF oc s st).lg.tr.length<=st.lg.tr.length+(st.B.n s+1)/\(mF oc s st).lg.tp.length<=st.lg.tp.length+(st.B.n s+1):=by
 have h:=Ny (oc:=oc) (s:=s) (mu oc s st) st;have hm:mu oc s st<=st.B.n s+1:=by unfold mu;split <;> omega
 unfold mF;omega
def aS.rC(V:aS)(i b s t k g cap':Nat)(o':Ord)(bM:Lm):aS :=
 { V with B:=aQ V.B i (eu b t g cap' (mF b s ⟨(V.B i).leave V.om t k,aQ V.om b o',V.lg.dI b (V.om b)⟩)),om:=aH b (mF b s ⟨(V.B i).leave V.om t k,aQ V.om b o',V.lg.dI b (V.om b)⟩),lg:=iC b (mF b s ⟨(V.B i).leave V.om t k,aQ V.om b o',V.lg.dI b (V.om b)⟩),lm:=bM }
theorem GW.rC{V:aS}{M M':Int}(h:GW V M)(hMM:M<=M')(hM:M'<=1000000000000000){i b s t k g cap':Nat}{o':Ord}{bM:Lm}(hi:i<V.nb)(hs:s<2)(ht:t=1-s)(hk:k<(V.B i).n t)(hb:(V.B i).h t k=b)(h1:o'.sym=(V.om b).sym)(h2:o'.side=(V.om b).side)(hq:Qo M' o') :
 GW (V.rC i b s t k g cap' o' bM) M'/\PH b s M' ⟨(V.B i).leave V.om t k,aQ V.om b o',V.lg.dI b (V.om b)⟩ (mF b s ⟨(V.B i).leave V.om t k,aQ V.om b o',V.lg.dI b (V.om b)⟩)/\sV b s ⟨(V.B i).leave V.om t k,aQ V.om b o',V.lg.dI b (V.om b)⟩/\(∀j,((V.rC i b s t k g cap' o' bM).B j).sym=(V.B j).sym)/\GB ((V.B i).leave V.om t k) (aQ V.om b o') (V.B i).sym (fun x=>VL V x/\x≠b):=by
 have hBs:∀j,((V.rC i b s t k g cap' o' bM).B j).sym=(V.B j).sym:=fun j=>by
  simp only[aS.rC];by_cases e:j=i
  ·rw[e,ai,oD];unfold mF;rw[BQ];rfl
  ·rw[ah _ _ e]
 have t2:t<2:=by omega
 have hm:=((h.gb i hi).mem t t2 _).1 ⟨k,hk,rfl⟩;rw[hb]at hm;have vM:VL V b:=hm.1;have gi:GB ((V.B i).leave V.om t k) (aQ V.om b o') ((V.B i).sym) (fun x=>VL V x/\x≠b):=by
  have:=wF (h.gb i hi) t2 hk;rw[hb]at this;refine this.lQ (fun x=>?_) (fun x hx _ _=>by rw[ah _ _ hx.2];exact⟨rfl,rfl,rfl⟩);constructor
  ·rintro⟨⟨a,a'⟩,c⟩;rw[ah _ _ a']at c;exact⟨⟨a,a'⟩,c⟩
  ·rintro⟨⟨a,a'⟩,c⟩;rw[ah _ _ a'];exact⟨⟨a,a'⟩,c⟩
 have gj:∀j,j<V.nb->j≠i->GB (V.B j) (aQ V.om b o') ((V.B j).sym) (VL V):=fun j hj hne=>by
  have nb:∀x,(V.om x).sym=(V.B j).sym->x≠b:=fun x hx e=>hne (by rw[e,hm.2.1]at hx;exact (h.lW i j hi hj hx).symm)
  refine (h.gb j hj).lQ (fun x=>?_) (fun x _ hx _=>by rw[ah _ _ (nb x hx)];exact⟨rfl,rfl,rfl⟩);constructor
  ·rintro⟨a,c,d⟩;have hxs:(V.om x).sym=(V.B j).sym:=by
    by_cases e:x=b
    ·rw[e,ai,h1]at c;rw[e];exact c
    ·rw[ah _ _ e]at c;exact c
   rw[ah _ _ (nb x hxs)]at d;exact⟨a,hxs,d⟩
  ·rintro⟨a,c,d⟩;rw[ah _ _ (nb x c)];exact⟨a,c,d⟩
 obtain⟨c1,c2,c3,c4,c5⟩:=AX h.lW (BB:=V.B) (g:=g) (cap':=cap') (lg:=V.lg.dI b (V.om b)) hM hi hs ht vM (by rw[ai,h1];exact hm.2.1) (by rw[ai,h2];exact hm.2.2.1) (fun x hx=>by
  by_cases e:x=b
  ·rw[e,ai];exact hq
  ·rw[ah _ _ e];exact (h.q x hx).mono hMM) gi gj
 have o0:∀x,(aQ V.om b o' x).sym=(V.om x).sym/\(aQ V.om b o' x).side=(V.om x).side:=fun x=>by
  by_cases e:x=b
  ·rw[e,ai];exact⟨h1,h2⟩
  ·rw[ah _ _ e];exact⟨rfl,rfl⟩
 refine⟨⟨fun j hj=>?_,fun a c ha hc e=>?_,c2,fun x hx=>?_,fun x hx=>?_⟩,c3,c5,hBs,gi⟩
 ·rw[hBs j];exact c1 j hj
 ·rw[hBs a,hBs c]at e;exact h.lW a c ha hc e
 ·show ∃j,j<V.nb/\(aH b (mF b s ⟨(V.B i).leave V.om t k,aQ V.om b o',V.lg.dI b (V.om b)⟩) x).sym=((V.rC i b s t k g cap' o' bM).B j).sym;rw[(c4 x).1,(o0 x).1];obtain⟨j,hj,e⟩:=h.sym x hx;exact⟨j,hj,by rw[hBs j];exact e⟩
 ·show (aH b (mF b s ⟨(V.B i).leave V.om t k,aQ V.om b o',V.lg.dI b (V.om b)⟩) x).side=_\/(aH b (mF b s ⟨(V.B i).leave V.om t k,aQ V.om b o',V.lg.dI b (V.om b)⟩) x).side=_;rw[(c4 x).2,(o0 x).2];exact h.side x hx
theorem GW.di{V:aS}{M:Int}(h:GW V M){s:ByteArray}{b:Nat}{bM:Lm}(hfree:∀i,i<V.nb->(V.B i).sym≠s):GW (V.di s b bM) M:=by
 have old:∀j,j<V.nb->(V.di s b bM).B j=V.B j:=fun j hj=>by
  show aQ V.B V.nb (lS s) j=V.B j;exact ah _ _ (by omega)
 have new:(V.di s b bM).B V.nb=lS s:=ai _ _ _;have hnew:(lS s).sym=s:=rfl;have hnb:(V.di s b bM).nb=V.nb+1:=rfl;refine⟨fun j hj=>?_,fun a c ha hc e=>?_,h.q,fun x hx=>?_,h.side⟩
 ·by_cases e:j<V.nb
  ·rw[old j e];exact h.gb j e
  ·obtain rfl:j=V.nb:=by omega
   rw[new,hnew];have n0:∀y,(lS s).n y=0:=fun y=>rfl
   refine⟨rfl,fun y hy x=>?_,fun y hy k h0 hk=>?_,fun y hy a c ha=>?_,fun x y hx=>?_⟩
   ·rw[n0];constructor
    ·rintro⟨k,hk,_⟩;omega
    ·rintro⟨a,c,_⟩;obtain⟨j,hj,e2⟩:=h.sym x a;exact absurd (e2.symm.trans c) (hfree j hj)
   ·rw[n0]at hk;omega
   ·rw[n0]at ha;omega
   ·obtain⟨k,hk,_⟩:=hx;rw[n0]at hk;omega
 ·by_cases ea:a<V.nb <;> by_cases ec:c<V.nb
  ·rw[old a ea,old c ec]at e;exact h.lW a c ea ec e
  ·obtain rfl:c=V.nb:=by omega
   rw[old a ea,new,hnew]at e;exact absurd e (hfree a ea)
  ·obtain rfl:a=V.nb:=by omega
   rw[old c ec,new,hnew]at e;exact absurd e.symm (hfree c ec)
  ·omega
 ·obtain⟨j,hj,e⟩:=h.sym x hx;exact⟨j,by omega,by rw[old j hj];exact e⟩
end Go.Proofs.YtigaphnafnpfnaaGreatDoor
