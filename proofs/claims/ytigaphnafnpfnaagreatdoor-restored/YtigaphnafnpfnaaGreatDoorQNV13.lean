import Derived.Test.YtigaphnafnpfnaaGreatDoorQNV11
import Derived.Test.YtigaphnafnpfnaaGreatDoorQNX0
set_option linter.unusedVariables false
set_option linter.unusedSimpArgs false
set_option maxHeartbeats 8000000
set_option maxRecDepth 100000
namespace Go.Proofs.YtigaphnafnpfnaaGreatDoor
open Go.RowKit Go.Maps
attribute [local go_sem ↓] Go.wp_at_zero Go.wp_at_succ
theorem PX{w wd:World}{bv lo:Nat}{bk:Nat->Nat}{q:Bool}{G:Lg}{m mb md:Lm}{S:Nat->Prop}(htb:mb.tb=m.tb/\mb.tv=m.tv)(hac:mb.ac.map Prod.snd=m.ac.map Prod.snd++[[]])(h1:md.ac=mb.ac)(h2:md.tb=mb.tb)(k:aj S w wd)(hS:∀y,S y->∃c t,aA w y c t/\(t=100\/t=105\/t=62)):iw wd bv bk lo q (m.ac.map Prod.snd) G.begun.nt m.tb md []:=by
 have h:=((iw.begun (w:=w) (bv:=bv) (bk:=bk) (lo:=lo) (q:=q) (G:=G) htb hac).aC k (nP.gK (fun y hy=>by
  obtain⟨c,t,hc,ht⟩:=hS y hy;exact⟨c,t,hc,by rcases ht with rfl | rfl | rfl;exact uS;exact ES;exact BZ⟩))).U3 (m':=md) h1 (fun d hd=>by simp[Lg.begun]at hd)
 rw[h2,htb.1]at h;exact h
theorem CP(bv bm bo k tb:Nat)(G:Lg)(m:Lm)(x:Tg)(p:Int)(w:World)(hL:bG w bv bm bo G m)(hx:G.tr[k]?=some x)(htb:m.tb[k]?=some tb)(hlen:G.tp.length<1000000000) :
 CT 76 #[PP bv,PP tb,II p] w fun e w'=>e=.returned (.tuple #[]) /\
  ∃m',bG w' bv bm bo ((G.jB k x p).told 3 (x.t.at p)) m'/\(∀b,m'.F b->m.F b\/w.heap.size<=b)/\aj (fun b=>b=bv\/m.F b) w w'/\m'.ac=m.ac/\(m'.tb=m.tb/\m'.tv=m.tv)/\∃S,aj S w w'/\∀y,S y->∃c t,aA w y c t/\(t=100\/t=105\/t=62):=by
 have hblk:=hL.aP.aF k tb x htb hx;have hF:m.F tb:=lN (List.mem_of_getElem? htb);obtain⟨w1,hw1⟩:=kL (w.setCell ⟨tb,2,none⟩ (II p));have k1:aj (fun y=>y=tb) w w1:=by rw[hw1];exact (aj.refl (fun y=>y=tb) w).setCell (p:=⟨tb,2,none⟩) (.inl rfl) _
 have hL1:bG w1 bv bm bo (G.jB k x p) m:=by rw[hw1];exact hL.jB hx htb p
 have b1:aA w1 tb #[II x.t.num,.string x.t.sym,II p,II x.t.aK,II x.t.qC,II x.t.iK,II x.t.day,.bool x.holds] 105:=by rw[hw1];exact hblk.set 2 _
 have c2:=hblk.cell 2;have f2:=hblk.frozen 2;simp only[Tg.cells]at c2;simp at c2;have c0:CC w tb 0 (II x.t.num):=hblk.cell 0;have c1:CC w tb 1 (.string x.t.sym):=hblk.cell 1;have c3:CC w tb 3 (II x.t.aK):=hblk.cell 3;have c4:CC w tb 4 (II x.t.qC):=hblk.cell 4;have c5:CC w tb 5 (II x.t.iK):=hblk.cell 5;have c6:CC w tb 6 (II x.t.day):=hblk.cell 6;obtain⟨HV,HBl,HPr⟩:=eY hL.dC hblk hL.aP.iO;have hT:=yY bv bm bo _ m 3 (x.t.at p) w1 hL1 hlen;simp only[Tr.val,Tr.at]at hT;obtain⟨HT,HW,HK,HF⟩:=pJ hT hw1 k1 hF;clear hT hw1 k1 hL1 b1 hL hblk hF hx htb;go_enter Tryz.func76,Tryz.ntmps76;go_wp2_with (go_at_call 73;rw[<-ae HW];refine (ae HT).mono ?_;rintro e w2 ⟨rfl,m',h1,h2,h3,h4,h5⟩;have H1:=au h1;have H2:=au h2;have H3:=au h3;have H4:=au h4;have H5:=au h5;clear h1 h2 h3 h4 h5);go_end0;refine⟨rfl,m',ae H1,fun b hb=>(ae H2 b hb).imp_right (fun h=>Nat.le_trans (ae HK).size h),?_,ae H4,ae H5,fun y=>y=tb\/(y=bv\/m.pv.ownBlock=some y),((ae HK).mono (fun y h=>.inl h)).trans ((ae H3).mono (fun y h=>.inr h)),fun y hy=>?_⟩
 ·exact ((ae HK).mono (fun y e=>.inr (by rw[e];exact ae HF))).trans ((ae H3).mono (fun y h=>h.imp_right (fun h=>.inr (.inl (.inl h)))))
 ·rcases hy with e | e | e
  ·rw[e];exact⟨_,105,ae HBl,.inr (.inl rfl)⟩
  ·rw[e];exact⟨_,100,ae HV,.inl rfl⟩
  ·obtain⟨cs,hcs⟩:=bK (ae HPr) e;exact⟨cs,62,hcs,.inr (.inr rfl)⟩
theorem PV(bv bm bo k tb:Nat)(V:aS)(N af:Int)(x:Tg)(w:World)(bk:Nat->Nat)(R:dS w bv bm bo V)(ZK:kP w)(hN:N-1=(k:Int))(hx:V.lg.tr[k]?=some x)(htb:V.lm.tb[k]?=some tb)(hlen:V.lg.tr.length<=1000000000)(hlen2:V.lg.tp.length<1000000000)(hput:pg x V.lg.day=0)(hp:dX af=true)(hna:V.lg.ud+V.lg.na<3000000)(hpl:Hid (V.lg.pl=fJ (tC N af) ⟨#[99,111,114,114,101,99,116]⟩ 2)) :
 CT 40 #[PP bv,II N,II af] w fun e w'=>e=.returned (II 0) /\
  ∃bM,bG w' bv bm bo (V.lg.mX k tb x af) bM/\(∀y,bM.F y->V.lm.F y\/w.heap.size<=y)/\aj (fun y=>y=bv\/V.lm.F y) w w'/\∃cl,iw w' bv bk w.heap.size true (V.lm.ac.map Prod.snd) (V.lg.mX k tb x af).nt V.lm.tb bM cl:=by
 have bN:iI N:=by
  have hk:=(List.getElem?_eq_some_iff.1 hx).1;exact⟨by omega,by omega⟩
 have bP:iI af:=oQ (by simp[dX]at hp;omega);have k0:aj aJ w (w.alloc (.cells #[PP bv] 35)):=(aj.refl aJ w).alloc _;have hT:=yt bv bm bo k tb V.lg V.lm N x _ (R.aP.aB k0) hN hx htb hlen;rw[hput]at hT;simp only[if_true]at hT;have HT:=au hT;clear hT;have Xh:=aA.new w #[PP bv] 35;have lv:=R.dC.lt;obtain⟨HR,HX,Ym⟩:=eY R hx htb;clear hput hx htb R;go_enter Tryz.func40,Tryz.ntmps40;go_wp2_with fail;refine (ae HT).mono ?_;rintro e w1 ⟨rfl,k1⟩;have Wj:aj aJ w w1:=k0.trans k1;obtain⟨DT,zT⟩:=kL (w1.alloc (.cells #[PP tb] 103));have Wi:aj aJ w DT:=by rw[zT];exact Wj.alloc _
 have s1a:DT.heap.size=w1.heap.size+1:=by rw[zT];simp
 have Yu:aA DT w.heap.size #[PP bv] 35:=by rw[zT];exact (k1.aF Xh aU).alloc _
 have bt1:aA DT w1.heap.size #[PP tb] 103:=by rw[zT];exact aA.new _ _ _
 have R1:=(ae HR).aB Wi;have Bl:=Nj ⟨#[99,111,114,114,101,99,116]⟩ N af DT (ZK.aB Wi) (by decide) (by decide) bN bP;generalize fJ (tC N af) ⟨#[99,111,114,114,101,99,116]⟩ 2=ln at Bl hpl;have nY:=au (oK bv bm bo V.lg V.lm ln DT R1.aP hna Bl.1.1 Bl.1.2 (ae hpl));have HLn:=au Bl.2;have Q8:CC DT w.heap.size 0 (PP bv):=Yu.cell 0;have xv1:CC w1 w.heap.size 0 (PP bv):=(k1.aF Xh aU).cell 0;have HW:=au zT;have l1:w.heap.size<w1.heap.size:=by have:=Wj.size;have:=k1.size;simp at this;omega
 have ab3:∀y,w.heap.size<=y->¬(y=bv\/V.lm.F y):=by
  rintro y hy (e | e)
  ·omega
  ·have:=(ae HR).aP.aP.lt e;omega
 have HC0:Hid ((DT.alloc (.cells #[II N,II af] 3)).cell? ⟨w1.heap.size+1,0,none⟩=some (II N)):=by
  show _=_;rw[<-s1a];exact (aA.new DT _ _).cell 0
 have Rj:Hid ((DT.alloc (.cells #[II N,II af] 3)).cell? ⟨w1.heap.size+1,1,none⟩=some (II af)):=by
  show _=_;rw[<-s1a];exact (aA.new DT _ _).cell 1
 obtain⟨ru,HB1,HT1,HR1,Rk,HS1⟩:=zC ab3 Yu bt1 R1 Wi s1a;clear zT k1 Bl ab3 R1 Yu bt1 Wi;go_wp2_with (go_at_call 68;refine (dh _ _).mono ?_;rintro e w' ⟨rfl,rfl⟩);rw[<-ae HW];go_region_held3 (fun w'=>w'.cell? ⟨w.heap.size,0,none⟩=some (PP bv)) (go_keep)
  (first
    | (go_at_call 65;refine (ae HLn _ ?cc _ _ ?c0 ?c1).mono ?_;(case c0=>exact ae HC0);(case c1=>exact ae Rj);(case cc=>repeat (first | exact aj.refl _ _ | refine aj.drew ?_ | refine aj.alloc ?_ _));rintro e wl ⟨rfl,hk⟩;have z0:=hk.cell (p:=⟨w.heap.size,0,none⟩) Q8 aU;have Ij:=au hk;clear hk)
    | (go_at_call 51;refine (ae nY _ ?cc).mono ?_;(case cc=>repeat (first | exact ae Ij | refine aj.drew ?_));rintro e wb ⟨rfl,l9,hLb,sW,kb,vk,-,hac⟩;have Ye:=au hac;clear hac;have z0:=kb.cell (p:=⟨w.heap.size,0,none⟩) Q8 (ae ru _ (Nat.le_refl _));have LH:=au hLb;have Ih:=au sW;have Fz:=au kb;have PG:=au vk;clear hLb sW kb vk))
 rename_i TB;clear TB z0 Q8 xv1 HLn Ij nY;have hLb:=ae LH;have sW:=ae Ih;have kb:=ae Fz;have vk:=ae PG;have PR:=kb.aF (ae HB1) (ae ru _ (Nat.le_refl _));have WY:=kb.aF (ae HT1) (ae ru _ (by omega));have Z8:l9.tb[k]?=some tb:=by rw[vk.1];exact ae Ym
 have hx':V.lg.begun.tr[k]?=some x:=ae HX;have VH:aA wb tb x.cells 105:=hLb.aP.aF k tb x Z8 hx';have xv:CC wb w.heap.size 0 (PP bv):=PR.cell 0;have xt:CC wb w1.heap.size 0 (PP tb):=WY.cell 0;have t2:CC wb tb 2 (II x.t.af):=VH.cell 2;have lvb:=PR.lt;have ltb:=WY.lt;have ktb:=VH.lt;have outb:∀y,w.heap.size<=y->y<DT.heap.size->¬(y=bv\/l9.F y):=by
  rintro y h1 h2 (e | e)
  ·omega
  ·rcases sW y e with e | e
   ·exact ae ru y h1 (.inr e)
   ·omega
 have hSP:=fun W (kW:aj aJ wb W)=>CP bv bm bo k tb V.lg.begun l9 x af W (hLb.aB kW) hx' Z8 (by simp only[Lg.begun];exact hlen2)
 obtain⟨HSP,WH,HLb,Wy,Zf⟩:=BD hSP outb hLb PR WY;have szb:=(ae Fz).size;have szc:=(ae HS1);clear hSP outb hLb sW kb vk PR WY VH Z8 hx';go_wp2_with (go_at_call 76;refine (ae HSP _ ?cc).mono ?_;(case cc=>repeat (first | exact aj.refl _ _ | refine aj.drew ?_ | refine aj.alloc ?_ _));rintro e wd ⟨rfl,lmd,hLd,hFd,kd,abg,Z9,SS,kS,hS⟩;have btd:=kS.aF ((ae Zf).alloc (.cells #[II x.t.af] 3)) (fun e=>(by obtain⟨c',t',h1,h2⟩:=hS _ e;exact aA.ne ((ae Zf).alloc (.cells #[II x.t.af] 3)) h1 (by rcases h2 with rfl | rfl | rfl <;> decide) rfl));have pd:=kS.aF (aA.new wb #[II x.t.af] 3) (fun e=>(by obtain⟨c',t',h1,h2⟩:=hS _ e;exact aA.ne (aA.new wb #[II x.t.af] 3) h1 (by rcases h2 with rfl | rfl | rfl <;> decide) rfl));have cud:iw wd bv bk w.heap.size true (V.lm.ac.map Prod.snd) V.lg.begun.nt V.lm.tb lmd []:=(PX (ae PG) (ae Ye) abg Z9.1 kS hS);have HLd:=au hLd;have HFd:=au hFd;have HKd:=au kd;have bvd:=kd.aF ((ae Wy).alloc (.cells #[II x.t.af] 3)) (ae WH _ (Nat.le_refl _) (by omega));have xvd:CC wd w.heap.size 0 (PP bv):=bvd.cell 0;have aU:bU wd bv bk w.heap.size (.iW tb x.t.af) (.func (.func 77) #[] #[PP w.heap.size,PP w1.heap.size,PP wb.heap.size]):=⟨_,_,rfl,rfl,w.heap.size,w1.heap.size,wb.heap.size,Nat.le_refl _,by omega,by omega,rfl,bvd,btd,pd⟩;have rZ:=au (nJ bv bm bo _ lmd (.iW tb x.t.af) (.func 77) #[PP w.heap.size,PP w1.heap.size,PP wb.heap.size] wd bk w.heap.size true _ _ _ hLd cud (fun _=>rfl) aU (by show 0<V.lg.na+1;omega) (by show V.lg.na+1<=3000000;omega) (by show 0+1<1000000000;omega) (fun _ g hg=>(ae HR).aP.aP.lt (.inl (by rw[<-(ae PG).2,<-Z9.2];exact hg))));clear hLd hFd kd bvd btd pd cud aU kS hS abg Z9);refine (ae rZ).mono ?_;rintro e w4 ⟨rfl,YO,c1,c2,c3,-,c6⟩;obtain⟨H1,H2,H3,H6⟩:=pJ c1 c2 c3 c6;clear c1 c2 c3 c6;go_wp2;go_ret;have s1:=(ae Rk).size;have sd:=(ae HKd).size;simp at sd;have hB:∀y,l9.F y->V.lm.F y\/w.heap.size<=y:=fun y h=>(ae Ih y h).imp_right (fun h=>by omega)
 have hD:∀y,lmd.F y->V.lm.F y\/w.heap.size<=y:=fun y h=>by
  rcases ae HFd y h with h | h
  ·exact hB y h
  ·simp at h;exact .inr (by omega)
 have kF1:aj (fun y=>y=bv\/V.lm.F y) w wb:=(ae Rk).bI.trans (ae Fz);have kF3:=(kF1.alloc (.cells #[II x.t.af] 3)).from ((ae HKd).mono (fun y h=>by
  rcases h with h | h
  ·exact .inl (.inl h)
  ·exact (hB y h).imp_left .inr))
 refine⟨rfl,YO,ae H1,fun y h=>?_,kF3.from ((ae H3).mono (fun y h=>(hD y (DR h)).imp_left .inr)),_,ae H6⟩;rcases ae H2 y h with h | h
 ·exact hD y h
 ·exact .inr (by omega)
open Go.RowKit
def Lg.qo(G:Lg)(k:Nat)(t:Tr):Lg:={ G with tr:=G.tr.set k ⟨t,true⟩ }
theorem fU.qo{w:World}{bv bm bo k b:Nat}{G:Lg}{m:Lm}{x:Tg}(h:bG w bv bm bo G m)(hx:G.tr[k]?=some x)(hb:m.tb[k]?=some b):bG (w.setCell ⟨b,7,none⟩ (.bool true)) bv bm bo (G.qo k x.t) m:=by
 have hblk:=h.aP.aF k b x hb hx;have kk:aj (fun y=>y=b) w (w.setCell ⟨b,7,none⟩ (.bool true)):=(aj.refl (fun y=>y=b) w).setCell (p:=⟨b,7,none⟩) (.inl rfl) _;refine⟨kk.aF h.dC (aA.ne h.dC hblk (by decide)),?_⟩;have ht:=aI h.aP.jJ kk (fun y hy e=>bY h.aP.jJ hy hblk (by decide) e);refine⟨?_,aI h.aP.iO kk (fun y hy e=>bY h.aP.iO hy hblk (by decide) e),by simp[Lg.qo,h.aP.len],fun i b' g hi hg=>?_,h.aP.nodup,h.aP.act.aC kk (fun y hy e=>?_),aI h.aP.kV kk (fun y hy e=>bY h.aP.kV hy hblk (by decide) e),h.aP.jb⟩
 ·simp only[Lg.qo,List.length_set];exact ht
 ·simp only[Lg.qo]at hg;by_cases e:i=k
  ·subst e;obtain rfl:b'=b:=by rw[hb]at hi;exact (Option.some.inj hi).symm
   have hlt:i<G.tr.length:=(List.getElem?_eq_some_iff.1 hx).1;rw[List.getElem?_set_self hlt]at hg;obtain rfl:=Option.some.inj hg;exact hblk.set 7 _
  ·rw[List.getElem?_set_ne (fun h=>e h.symm)]at hg;refine kk.aF (h.aP.aF i b' g hi hg) (fun e2=>e ?_);subst e2;obtain⟨h1,e1⟩:=List.getElem?_eq_some_iff.1 hi;obtain⟨h2,e2⟩:=List.getElem?_eq_some_iff.1 hb;rcases Nat.lt_trichotomy i k with hlt | hlt | hlt
   ·exact absurd (e1.trans e2.symm) (List.pairwise_iff_getElem.1 h.aP.nodup i k h1 h2 hlt)
   ·exact hlt
   ·exact absurd (e2.trans e1.symm) (List.pairwise_iff_getElem.1 h.aP.nodup k i h2 h1 hlt)
 ·obtain⟨c,t,hc,ht'⟩:=h.aP.act.gK hy;subst e;exact aA.ne hc hblk (by rcases ht' with rfl | rfl <;> decide) rfl
theorem SE(bv bm bo H:Nat)(G:Lg)(m:Lm)(w:World)(hL:bG w bv bm bo G m)(h1:aA w H #[dD bv] 35) :
 CT 79 #[dD H] w fun e w'=>e=.returned (.tuple #[])/\bG w' bv bm bo { G with day:=wrap64 (G.day-1) } m/\aj (fun x=>x=bv) w w':=by
 have x0:CC w H 0 (PP bv):=h1.cell 0;have v4:CC w bv 4 (II G.day):=hL.dC.cell 4;have f4:=hL.dC.frozen 4;have HL:=au hL;clear hL h1;simp only[dD];go_enter Tryz.func79,Tryz.ntmps79;go_wp2;go_end0;have h:=(ae HL).Vf (wrap64 (G.day-1));exact⟨rfl,h.1,h.2⟩
theorem UZ(bv bm bo H K J k tb:Nat)(p:Int)(G:Lg)(m:Lm)(x:Tg)(w:World)(hL:bG w bv bm bo G m)(hx:G.tr[k]?=some x)(htb:m.tb[k]?=some tb)(hlen:G.tp.length<1000000000)
 (h1:aA w H #[dD bv] 35) (h2:aA w K #[dD tb] 103) (h3:aA w J #[II p] 3) :
 CT 77 #[dD H,dD K,dD J] w fun e w'=>e=.returned (.tuple #[]) /\
  ∃m',bG w' bv bm bo ((G.jB k x p).told 3 (x.t.at p)) m'/\(∀b,m'.F b->m.F b\/w.heap.size<=b)/\aj (fun b=>b=bv\/m.F b) w w'/\m'.ac=m.ac/\(m'.tb=m.tb/\m'.tv=m.tv)/\∃S,aj S w w'/\∀y,S y->∃c t,aA w y c t/\(t=100\/t=105\/t=62):=by
 have x0:CC w H 0 (PP bv):=h1.cell 0;have x1:CC w K 0 (PP tb):=h2.cell 0;have x2:CC w J 0 (II p):=h3.cell 0;have HC:=au (CP bv bm bo k tb G m x p w hL hx htb hlen);clear hL hx htb h1 h2 h3;simp only[dD];go_enter Tryz.func77,Tryz.ntmps77;go_wp2_with fail;refine (ae HC).mono ?_;rintro e w1 ⟨rfl,h⟩;have HH:=au h;clear h;go_wp2;go_end0;exact⟨rfl,ae HH⟩
theorem Sv(bv bm bo H K k tb:Nat)(G:Lg)(m:Lm)(x:Tg)(w:World)(hL:bG w bv bm bo G m)(hx:G.tr[k]?=some x)(htb:m.tb[k]?=some tb)(hlen:G.tp.length<1000000000)
 (h1:aA w H #[dD bv] 35) (h2:aA w K #[dD tb] 103) :
 CT 74 #[dD K,dD H] w fun e w'=>e=.returned (.tuple #[]) /\
  ∃m',bG w' bv bm bo ((G.qo k x.t).told 1 x.t) m'/\(∀b,m'.F b->m.F b\/w.heap.size<=b)/\aj (fun b=>b=tb\/b=bv\/m.pv.ownBlock=some b) w w'/\m'.ac=m.ac/\m'.tb=m.tb:=by
 have hblk:=hL.aP.aF k tb x htb hx;have x0:CC w H 0 (PP bv):=h1.cell 0;have x1:CC w K 0 (PP tb):=h2.cell 0;have n1:¬H=tb:=aA.ne h1 hblk (by decide);have n2:¬K=tb:=aA.ne h2 hblk (by decide);obtain⟨w1,hw1⟩:=kL (w.setCell ⟨tb,7,none⟩ (.bool true));have k1:aj (fun y=>y=tb) w w1:=by rw[hw1];exact (aj.refl (fun y=>y=tb) w).setCell (p:=⟨tb,7,none⟩) (.inl rfl) _
 have hL1:bG w1 bv bm bo (G.qo k x.t) m:=by rw[hw1];exact hL.qo hx htb
 have c7:=hblk.cell 7;have f7:=hblk.frozen 7;simp only[Tg.cells]at c7;simp at c7;obtain⟨c0,c1,c2,c3,c4,c5,c6,-⟩:=hblk.c8;have HT:=au (fun q=>yY bv bm bo _ m 1 x.t (w1.drewN q) (hL1.aB ((aj.refl aJ w1).drewN q)) hlen);obtain⟨HW,HK⟩:=dE hw1 k1;clear hw1 k1 hL1 hL hblk hx htb h1 h2;simp only[dD];go_enter Tryz.func74,Tryz.ntmps74;go_wp2;go_region_with (first | (go_at_call 73;rw[<-ae HW];refine (ae HT _).mono ?_;rintro e w2 ⟨rfl,m',h1,h2,h3,h4,h5⟩))
 all_goals
  go_wp2;go_end0;refine⟨rfl,m',h1,fun b hb=>(h2 b hb).imp_right (fun h=>Nat.le_trans (ae HK).size h),((ae HK).mono (fun y h=>.inl h)).trans (((aj.refl _ w1).drewN _).trans (h3.mono (fun y h=>.inr h))),h4,h5.1⟩
end Go.Proofs.YtigaphnafnpfnaaGreatDoor
