import Derived.Test.YtigaphnafnpfnaaGreatDoorQVV7
import Derived.Test.YtigaphnafnpfnaaGreatDoorQVE13
set_option linter.unusedVariables false
set_option linter.unusedSimpArgs false
set_option maxHeartbeats 8000000
set_option maxRecDepth 100000
namespace Go.Proofs.YtigaphnafnpfnaaGreatDoor
open Go.RowKit Go.Maps
attribute [local go_sem ↓] Go.wp_at_zero Go.wp_at_succ
theorem ng(bv bm bo:Nat)(G:Lg)(m:Lm)(line:ByteArray)(w:World)(hL:bu w bv bm bo G m)(hna:G.ud+G.na<3000000)(h0:0<line.size)(hl:line.size<=290) :
 ∀W,au aP w W->Calls Tryz.prog 51 #[.pointer (some ⟨bv,0,none⟩),.string line] W fun e w'=>e=.returned (.tuple #[]) /\
  ∃m',bu w' bv bm bo G.begun m'/\(∀b,m'.F b->m.F b\/w.heap.size<=b)/\au (fun b=>b=bv\/m.F b) w w'/\(m'.tb=m.tb/\m'.tv=m.tv)/\au (fun b=>b=bv\/m.av.ownBlock=some b\/m.jv.ownBlock=some b) w w'/\m'.ac.map Prod.snd=m.ac.map Prod.snd++[[]]:=by
 intro W k
 refine (KH bv bm bo G m line W (hL.aH k) hna h0 hl).mono ?_
 rintro e w' ⟨rfl,m',h1,h2,h3,h4,h5⟩
 have k2:au (fun b=>b=bv\/m.av.ownBlock=some b\/m.jv.ownBlock=some b) w w':=k.bI.trans h3
 exact⟨rfl,m',h1,fun b hb=>(h2 b hb).imp_right (fun h=>Nat.le_trans k.size h),k2.mono (fun b h=>h.imp_right (fun h=>h.elim (fun h=>.inr (.inr (.inr (.inl h)))) (fun h=>.inr (.inl (.inr h))))),h4,k2,h5⟩
theorem gI.begun{w:World}{bv:Nat}{bk:Nat->Nat}{lo:Nat}{q:Bool}{G:Lg}{m m':Lm}(htb:m'.tb=m.tb/\m'.tv=m.tv)(hac:m'.ac.map Prod.snd=m.ac.map Prod.snd++[[]]):gI w bv bk lo q (m.ac.map Prod.snd) G.begun.nt m.tb m' []:=by
 refine⟨htb.1,hac,rfl,fun d hd=>?_,fun j d c hd=>?_,fun d hd=>?_⟩
 ·simp[Lg.begun]at hd
 ·simp[Lg.begun]at hd
 ·simp[Lg.begun]at hd
def Dz(bv bm bo:Nat)(G:Lg)(lm:Lm)(bk:Nat->Nat)(q:Bool)(ds:List dS)(w w':World):Prop :=
 ∃bH,bu w' bv bm bo (G.begun.aV ds) bH/\(∀x,bH.F x->lm.F x\/w.heap.size<=x)/\∃cl,gI w' bv bk w.heap.size q (lm.ac.map Prod.snd) (G.begun.aV ds).nt lm.tb bH cl
theorem O3(bv bm bo i s k:Nat)(V:aQ)(id:Int)(w:World)(bk:Nat->Nat)(hbk:bk ((V.B i).h s k)=V.bk i)(R:dN w bv bm bo V)(hT:oC w)(hid:(Lit.int .i64 id).wf=true)(hi:i<V.nb)(hs:s<2)(hk:k<(V.B i).n s)(hn:V.aU id=some ((V.B i).h s k))(h0:(V.om ((V.B i).h s k)).aK≠0)
 (hside:(V.om ((V.B i).h s k)).side=(s:Int)) (dM:(V.om ((V.B i).h s k)).sym=(V.B i).sym) (hlen:(V.B i).sym.size<=maxLen) (hna:V.lg.ud+V.lg.na<3000000) :
 Calls Tryz.prog 37 #[.pointer (some ⟨bv,0,none⟩),.int .i64 id] w fun e w'=>e=.returned (.int .i64 0) /\
  Mk w' (V.bk i) ((V.B i).leave V.om s k) (aN V.om ((V.B i).h s k) (fU (V.om ((V.B i).h s k)))) (fun x=>∃id,V.aU id=some x)/\Dz bv bm bo V.lg V.lm bk true [.left ((V.B i).h s k),.fA ((V.B i).h s k) (V.om ((V.B i).h s k))] w w'/\au (fun x=>x=bv\/V.lm.F x\/x=V.bk i\/dC (V.B i) s x) w w':=by
 have L2:=R.vN hid
 rw[hn]at L2
 simp only[iR]at L2
 obtain⟨_,ix,ho⟩:=R.bg id _ hn
 have o8:w.cell? ⟨(V.B i).h s k,8,none⟩=some (.int .i64 (V.om ((V.B i).h s k)).aK):=ho.cell 8
 have e0:((V.om ((V.B i).h s k)).aK == 0)=false:=by simp[h0]
 have v1:w.cell? ⟨bv,1,none⟩=some (.map (some bo)):=R.dA.cell 1
 have zy:=qw ⟨#[99,97,110,99,101,108]⟩ (fun _=>id) 1 w hT (by decide) (by decide) (by omega) (fun _ _=>bounds_i64 hid)
 generalize gY (fun _=>id) ⟨#[99,97,110,99,101,108]⟩ 1=ln at zy
 have mg:=ai (ng bv bm bo V.lg V.lm ln w R.aO hna zy.1.1 zy.1.2)
 have U9:=ai zy.2
 clear zy
 have HR:=ai R
 have HN:=ai hn
 have OJ:=ai dM
 have YN:=ai hside
 clear R hn ho h0 dM hside
 go_enter Tryz.func37,Tryz.ntmps37
 go_wp2_with fail
 refine (ae U9 _ ((au.refl aP w).alloc _) _ _ (fun i hi=>by obtain rfl:i=0:=(by omega);exact (az.new w _ _).cell 0)).mono ?_
 rintro e wl ⟨rfl,kl⟩
 have Fb:=ai kl
 clear kl
 go_wp2_with fail
 refine (ae mg _ (ae Fb)).mono ?_
 rintro e wb ⟨rfl,kT,hLb,qO,kb,htb,-,hac⟩
 clear U9 Fb
 clear L2 o8 e0 v1
 have Rb:=(ae HR).jH hLb kb
 have hnb:({ V with lg:=V.lg.begun,lm:=kT }:aQ).aU id=some ((V.B i).h s k):=ae HN
 obtain⟨_,ix,ho⟩:=Rb.bg id _ hnb
 have o2:wb.cell? ⟨(V.B i).h s k,2,none⟩=some (.string (V.B i).sym):=by rw[<-ae OJ];exact az.cell ho 2
 have v0:wb.cell? ⟨bv,0,none⟩=some (.map (some bm)):=Rb.dA.cell 0
 have L1:(Instr.lookup 94 (.map (some bm)) (.string (V.B i).sym) false).run Tryz.prog wb=.ok (.pointer (some ⟨V.bk i,0,none⟩)) wb:=Rb.zM hi hlen
 have WA:(Instr.lookup 94 (.map (some bm)) (.string (V.B i).sym) false).run Tryz.prog wb.drew=.ok (.pointer (some ⟨V.bk i,0,none⟩)) wb.drew:=Rb.JM hi hlen 1
 have HL:=ai (fun q=>pF (V.bk i) (V.B i) V.om (fun x=>∃id,V.aU id=some x) s k (wb.drewN q) ((Rb.aH ((au.refl aP wb).drewN q)).qQ hi) hs hk (ae YN))
 have HC:=ai (fun (W:World) (m:Mk W (V.bk i) ((V.B i).leave V.om s k) V.om (fun x=>∃id,V.aU id=some x))=>lF (V.bk i) ((V.B i).h s k) ((V.B i).leave V.om s k) V.om _ W m ⟨id,ae HN⟩)
 have qF:Hid (∀q w2 w3 sH cp2 nC cp3,Mk w2 (V.bk i) ((V.B i).leave V.om s k) V.om (fun x=>∃id,V.aU id=some x)->au (fun x=>x=V.bk i\/dC (V.B i) s x) (wb.drewN q) w2->Mk w3 (V.bk i) ((V.B i).leave V.om s k) (aN V.om ((V.B i).h s k) (fU (V.om ((V.B i).h s k)))) (fun x=>∃id,V.aU id=some x)->au (fun x=>x=(V.B i).h s k) w2 w3->iZ w2 (V.bk i) ((V.B i).h s k) (wb.drewN q).heap.size sH cp2->jr w3 ((V.B i).h s k) (V.om ((V.B i).h s k)) w2.heap.size nC cp3 ->
  Calls Tryz.prog 53 #[.pointer (some ⟨bv,0,none⟩),.slice (some ⟨w3.heap.size,0,none⟩) 2 2] (w3.alloc (.cells #[.func sH #[] cp2,.func nC #[] cp3] 1)) fun e w'=>e=.returned (.tuple #[]) /\
   Mk w' (V.bk i) ((V.B i).leave V.om s k) (aN V.om ((V.B i).h s k) (fU (V.om ((V.B i).h s k)))) (fun x=>∃id,V.aU id=some x)/\Dz bv bm bo V.lg V.lm bk true [.left ((V.B i).h s k),.fA ((V.B i).h s k) (V.om ((V.B i).h s k))] w w'/\au (fun x=>x=bv\/V.lm.F x\/x=V.bk i\/dC (V.B i) s x) w w'):=by
  intro q w2 w3 sH cp2 nC cp3 m2 k2 m3 k3 f2 f3
  have h2:=(hLb.aH ((au.refl aP wb).drewN q)).jg k2 (fun x h=>((Rb.aH ((au.refl aP wb).drewN q)).qQ hi).fZ (by
   rcases h with h|h
   ·exact .inl h
   ·exact .inr (.inr ⟨s,hs,h⟩)))
  have h3:=h2.jg k3 (fun x h=>by subst h;exact m2.fZ (.inr (.inl ⟨id,ae HN⟩)))
  have hd:au aP wb (wb.drewN q):=(au.refl aP wb).drewN q
  have mb:=(Rb.aH hd).qQ hi
  have qH:∀g,gG ((V.B i).sl s)=some g->g<w.heap.size:=fun g hg=>(((ae HR).aW i hi).side s hs).lt hg
  have cb:gI wb bv bk w.heap.size true (V.lm.ac.map Prod.snd) V.lg.begun.nt V.lm.tb kT []:=gI.begun htb hac
  have o2:l9 (wb.drewN q) w.heap.size true (fun x=>x=V.bk i\/dC (V.B i) s x):=rH mb hs qH
  have o3:l9 w2 w.heap.size true (fun x=>x=(V.B i).h s k):=jl m2 ⟨id,ae HN⟩
  have c3:=((cb.aH hd).aC k2 o2).aC k3 o3
  have szb:=kb.size
  have i2:bJ w2 bv bk w.heap.size (.left ((V.B i).h s k)) (.func sH #[] cp2):=⟨_,_,rfl,by
   show iZ w2 (bk ((V.B i).h s k)) ((V.B i).h s k) _ sH cp2
   rw[hbk]
   exact f2.mono (by have:=hd.size;omega)⟩
  have Z7:=i2.aC (q:=true) (fun _=>rfl) k3 o3
  have i3:bJ w3 bv bk w.heap.size (.fA ((V.B i).h s k) (V.om ((V.B i).h s k))) (.func nC #[] cp3):=⟨_,_,rfl,f3.mono (by have:=hd.size;have:=k2.size;omega)⟩
  refine (uN bv bm bo _ kT (.left ((V.B i).h s k)) (.fA ((V.B i).h s k) (V.om ((V.B i).h s k))) sH nC cp2 cp3 w3 bk w.heap.size true _ _ _ h3 c3 (fun _=>rfl) (fun _=>rfl) Z7 i3 (by show 0<V.lg.na+1;omega) (by show V.lg.na+1<=3000000;omega) (by show 0+2<1000000000;omega)).mono ?_
  rintro e w' ⟨rfl,bH,a1,a2,a3',-,a5⟩
  have a3:au (fun x=>kT.F x) w3 w':=a3'.mono (fun b h=>.inr (.inr (.inr h)))
  have kb':au (fun x=>x=bv\/V.lm.F x\/x=V.bk i\/dC (V.B i) s x) w wb:=kb.mono (fun x h=>h.imp_right .inl)
  have Gi:=(kb'.drewN q).trans ((k2.mono (fun x h=>.inr (.inr h))).trans (k3.mono (fun x h=>.inr (.inr (.inr (.inr ⟨k,hk,h⟩))))))
  refine⟨rfl,m3.jc h3 (a3.mono (fun _ h=>.inr h)),⟨bH,a1,fun x hx=>?_,_,a5⟩,Gi.from (a3.mono (fun x h=>(qO x h).imp_left (fun h=>.inr (.inl h))))⟩
  rcases a2 x hx with h|h
  ·exact qO x h
  ·exact .inr (Nat.le_trans Gi.size h)
 clear ho hnb Rb hLb qO kb htb hac mg HR OJ YN HN
 go_wp2
 go_region_with (first|(go_at_call 66;refine (ae HL _).mono ?_;rintro e w2 ⟨sH,cp2,rfl,f2,m2,c2⟩)|(go_at_call 67;refine (ae HC _ m2).mono ?_;rintro e w3 ⟨nC,cp3,rfl,f3,m3,c3⟩)|(go_at_call 53;refine (ae qF _ w2 w3 sH cp2 nC cp3 m2 c2 m3 c3 f2 f3).mono ?_;rintro e w4 ⟨rfl,r4⟩))
 all_goals
  go_wp2
  go_ret
  exact⟨rfl,r4⟩
open Go.RowKit
theorem QF(b H:Nat)(o p:Ord)(ix:Int)(w:World)(ho:df w b p ix)(hn:wQ w H b o) :
 Calls Tryz.prog 151 #[dn (H+1),dn H] w fun e w'=>e=.returned (.tuple #[])/\df w' b { o with place:=p.place } ix/\au (fun x=>x=b) w w':=by
 have x0:w.cell? ⟨H,0,none⟩=some (.pointer (some ⟨b,0,none⟩)):=hn.box.cell 0
 have c0:w.cell? ⟨H+1,0,none⟩=some (.int .i64 o.id):=hn.fA.cell 0
 have c1:w.cell? ⟨H+1,1,none⟩=some (.int .i64 o.aA):=hn.fA.cell 1
 have c2:w.cell? ⟨H+1,2,none⟩=some (.string o.sym):=hn.fA.cell 2
 have c3:w.cell? ⟨H+1,3,none⟩=some (.int .i64 o.side):=hn.fA.cell 3
 have c4:w.cell? ⟨H+1,4,none⟩=some (.int .i64 o.kind):=hn.fA.cell 4
 have c5:w.cell? ⟨H+1,5,none⟩=some (.int .i64 o.af):=hn.fA.cell 5
 have c6:w.cell? ⟨H+1,6,none⟩=some (.int .i64 o.aI):=hn.fA.cell 6
 have c7:w.cell? ⟨H+1,7,none⟩=some (.int .i64 o.entered):=hn.fA.cell 7
 have c8:w.cell? ⟨H+1,8,none⟩=some (.int .i64 o.aK):=hn.fA.cell 8
 have c9:w.cell? ⟨H+1,9,none⟩=some (.int .i64 o.filled):=hn.fA.cell 9
 have c10:w.cell? ⟨H+1,10,none⟩=some (.int .i64 o.bQ):=hn.fA.cell 10
 have c11:w.cell? ⟨H+1,11,none⟩=some (.int .i64 o.exp):=hn.fA.cell 11
 have hH:=hn.fA.lt
 have g0:w.cell? ⟨b,0,none⟩=some (.int .i64 p.id):=ho.cell 0
 have g1:w.cell? ⟨b,1,none⟩=some (.int .i64 p.aA):=ho.cell 1
 have g2:w.cell? ⟨b,2,none⟩=some (.string p.sym):=ho.cell 2
 have g3:w.cell? ⟨b,3,none⟩=some (.int .i64 p.side):=ho.cell 3
 have g4:w.cell? ⟨b,4,none⟩=some (.int .i64 p.kind):=ho.cell 4
 have g5:w.cell? ⟨b,5,none⟩=some (.int .i64 p.af):=ho.cell 5
 have g6:w.cell? ⟨b,6,none⟩=some (.int .i64 p.aI):=ho.cell 6
 have g7:w.cell? ⟨b,7,none⟩=some (.int .i64 p.entered):=ho.cell 7
 have g8:w.cell? ⟨b,8,none⟩=some (.int .i64 p.aK):=ho.cell 8
 have g9:w.cell? ⟨b,9,none⟩=some (.int .i64 p.filled):=ho.cell 9
 have g10:w.cell? ⟨b,10,none⟩=some (.int .i64 p.bQ):=ho.cell 10
 have g11:w.cell? ⟨b,11,none⟩=some (.int .i64 p.exp):=ho.cell 11
 have fz:∀i,w.frozen? ⟨b,i,none⟩=false:=fun i=>ho.frozen i
 have hne:H+1≠b:=az.ne hn.fA ho (by decide)
 have hne0:H≠b:=az.ne hn.box ho (by decide)
 have HO:=ai ho
 have HN:=ai hn
 clear ho hn
 simp only[dn]
 go_enter Tryz.func151,Tryz.ntmps151
 go_wp2
 go_end0
 refine⟨rfl,?_,?_⟩
 ·have h:=ae HO
  unfold df at h ⊢
  have h':=az.set (az.set (az.set (az.set (az.set (az.set (az.set (az.set (az.set (az.set (az.set (az.set h 0 (.int .i64 o.id)) 1 (.int .i64 o.aA)) 2 (.string o.sym)) 3 (.int .i64 o.side)) 4 (.int .i64 o.kind)) 5 (.int .i64 o.af)) 6 (.int .i64 o.aI)) 7 (.int .i64 o.entered)) 8 (.int .i64 o.aK)) 9 (.int .i64 o.filled)) 10 (.int .i64 o.bQ)) 11 (.int .i64 o.exp)
  simp only[Ord.cells,List.setIfInBounds_toArray,List.set_cons_zero,List.set_cons_succ]at h' ⊢
  exact h'
 ·have k0:=au.refl (fun x=>x=b) w
  have k:=fun (W:World) (h:au (fun x=>x=b) w W) (i:Nat) (v:Value)=>h.setCell (p:=⟨b,i,none⟩) (.inl rfl) v
  exact k _ (k _ (k _ (k _ (k _ (k _ (k _ (k _ (k _ (k _ (k _ (k _ k0 _ _) _ _) _ _) _ _) _ _) _ _) _ _) _ _) _ _) _ _) _ _) _ _
theorem Mk.XT{w:World}{bb:Nat}{B:Bk}{om:Nat->Ord}{L:Nat->Prop}(m:Mk w bb B om L)(v:Int):Mk (w.setCell ⟨bb,3,none⟩ (.int .i64 v)) bb { B with places:=v } om L:=by
 have k:au (fun x=>x=bb) w (w.setCell ⟨bb,3,none⟩ (.int .i64 v)):=(au.refl (fun x=>x=bb) w).setCell (p:=⟨bb,3,none⟩) (.inl rfl) _
 refine⟨⟨m.aW.aB.set 3 _,fun s hs=>(m.aW.side s hs).aC k (fun b h e=>by subst e;exact m.aW.KG hs h),m.aW.apart,m.aW.uF⟩,fun b hb=>?_,m.mem⟩
 obtain⟨ix,ho⟩:=m.bg b hb
 exact⟨ix,k.aB ho (fun e=>az.ne ho m.aW.aB (by decide) e)⟩
theorem Mk.push{w w':World}{bb ob s g cap':Nat}{B:Bk}{om:Nat->Ord}{L:Nat->Prop}(m:Mk w bb B om L)(hs:s<2)(hL:L ob)(h1:bU w' bb (B.push om s ob g cap') om)(h3:au (fun b=>b=bb\/b=ob\/dC B s b) w w'):Mk w' bb (B.push om s ob g cap') om L:=by
 have hmem:∀b,Mem (B.n s) (B.h s) b\/b=ob->∃ix,df w' b (om b) ix:=by
  intro b hb
  obtain⟨k,hk,e⟩:=(iP (lt:=fG om) (B.h s) ob b).2 hb
  have:=(h1.side s hs).bg (i:=k) (by simp only[Bk.push,aj];exact hk)
  simp only[Bk.push,aj]at this
  rw[<-e]at this
  exact⟨k,this⟩
 refine⟨h1,fun b hb=>?_,fun t ht k hk=>?_⟩
 ·by_cases e:b=ob
  ·exact hmem b (.inr e)
  ·by_cases hm:Mem (B.n s) (B.h s) b
   ·exact hmem b (.inl hm)
   ·obtain⟨ix,ho⟩:=m.bg b hb
    refine⟨ix,h3.aB ho ?_⟩
    rintro (rfl|h|h|h)
    ·exact az.ne ho m.aW.aB (by decide) rfl
    ·exact e h
    ·exact (m.aW.side s hs).ne ho (by decide) h
    ·exact hm h
 ·by_cases e:t=s
  ·subst e
   simp only[Bk.push,aj]at hk ⊢
   rcases (iP (lt:=fG om) (B.h t) ob _).1 ⟨k,hk,rfl⟩ with⟨k',hk',e'⟩|e'
   ·rw[e'];exact m.mem t ht k' hk'
   ·rw[e'];exact hL
  ·simp only[Bk.push,ah _ _ e]at hk ⊢
   exact m.mem t ht k hk
theorem Um(bb ob s H:Nat)(B:Bk)(om:Nat->Ord)(L:Nat->Prop)(w:World)(m:Mk w bb B om L)(hL:L ob)(hp:uY w H bb ob)(hs:s<2)(hside:(om ob).side=(s:Int))(hnew:∀t,t<2->∀k,k<B.n t->B.h t k≠ob)(hn:B.n s<1000) :
 Calls Tryz.prog 117 #[dn H,dn (H+1)] w fun e w'=>e=.returned (.tuple #[])/\∃g cap',Mk w' bb (B.push om s ob g cap') om L/\au (fun b=>b=bb\/b=ob\/dC B s b) w w'/\(gG (B.sl s)=some g\/w.heap.size<=g):=by
 obtain⟨ix,ho⟩:=m.bg ob hL
 have HC:=ai (Cc bb ob s B om ix w m.aW ho hs hside hnew hn)
 have x0:w.cell? ⟨H,0,none⟩=some (.pointer (some ⟨bb,0,none⟩)):=hp.aW.cell 0
 have x1:w.cell? ⟨H+1,0,none⟩=some (.pointer (some ⟨ob,0,none⟩)):=hp.ord.cell 0
 have HM:=ai m
 clear m ho hp
 simp only[dn]
 go_enter Tryz.func117,Tryz.ntmps117
 go_wp2_with fail
 refine (ae HC).mono ?_
 rintro e w1 ⟨rfl,g,cap',h1,h2,h3⟩
 go_wp2
 go_end0
 exact⟨rfl,g,cap',(ae HM).push hs hL h1 h2,h2,h3⟩
def Bk.jK(B:Bk)(om:Nat->Ord)(s i:Nat):Bk:={ B.leave om s i with places:=wrap64 (B.places-1) }
theorem EL(bb s i H:Nat)(p:Int)(B:Bk)(om:Nat->Ord)(L:Nat->Prop)(w:World)(m:Mk w bb B om L)(hs:s<2)(hi:i<B.n s)(hp:uZ w H bb (B.h s i) p)(hside:(om (B.h s i)).side=(s:Int))(hsep:gG (B.sl s)≠some (H+1)) :
 Calls Tryz.prog 153 #[dn H,dn (H+1),dn (H+2)] w fun e w'=>e=.returned (.tuple #[]) /\
  Mk w' bb (B.jK om s i) (aN om (B.h s i) { om (B.h s i) with place:=p }) L/\au (fun b=>b=bb\/dC B s b) w w':=by
 obtain⟨ob,hob⟩:∃ob,ob=B.h s i:=⟨_,rfl⟩
 have HC:=ai (xP bb B om s i w m.aW hs hi hside)
 rw[<-hob]at hp HC ⊢
 have hL:L ob:=hob▸m.mem s hs i hi
 have x0:w.cell? ⟨H,0,none⟩=some (.pointer (some ⟨bb,0,none⟩)):=hp.uO.aW.cell 0
 have x1:w.cell? ⟨H+1,0,none⟩=some (.pointer (some ⟨ob,0,none⟩)):=hp.uO.ord.cell 0
 have lo:=hp.uO.aW.lt
 obtain⟨ix0,ho0⟩:=m.bg ob hL
 have n0:¬H=ob:=az.ne hp.uO.aW ho0 (by decide)
 have n1:¬H=bb:=az.ne hp.uO.aW m.aW.aB (by decide)
 have n2:¬H+1=ob:=az.ne hp.uO.ord ho0 (by decide)
 have n3:¬H+1=bb:=az.ne hp.uO.ord m.aW.aB (by decide)
 have nS:∀x c t,az w x c t->t≠158->t≠116->¬(gG (B.sl s)=some x)->¬(x=bb\/dC B s x):=by
  rintro x c t hb h1 h2 h3 (e|e|⟨k,hk,e⟩)
  ·rw[e]at hb;exact az.ne hb m.aW.aB h1 rfl
  ·exact h3 e
  ·rw[e]at hb;exact az.ne hb ((m.aW.side s hs).bg hk) h2 rfl
 have HN:Hid (∀w1,au (fun b=>b=bb\/dC B s b) w w1->w1.cell? ⟨H,0,none⟩=some (.pointer (some ⟨bb,0,none⟩))/\w1.cell? ⟨H+1,0,none⟩=some (.pointer (some ⟨ob,0,none⟩))/\w1.cell? ⟨H+2,0,none⟩=some (.int .i64 p)):=fun w1 k =>
  ⟨(k.aB hp.uO.aW (nS _ _ _ hp.uO.aW (by decide) (by decide) ((m.aW.side s hs).ne hp.uO.aW (by decide)))).cell 0,(k.aB hp.uO.ord (nS _ _ _ hp.uO.ord (by decide) (by decide) hsep)).cell 0,(k.aB hp.place (nS _ _ _ hp.place (by decide) (by decide) ((m.aW.side s hs).ne hp.place (by decide)))).cell 0⟩
 have Td:=ai hob
 have HM:=ai m
 clear m hp nS hob ho0 lo hsep
 simp only[dn]
 go_enter Tryz.func153,Tryz.ntmps153
 go_wp2_with fail
 refine (ae HC).mono ?_
 rintro e w1 ⟨rfl,h1,h2,h3⟩
 obtain⟨y0,y1,y2⟩:=ae HN w1 h3
 have m1:Mk w1 bb (B.leave om s i) om L:=(ae HM).leave hs hi h1 (by rw[<-ae Td];exact h2) h3
 obtain⟨ix,ho1⟩:=m1.bg ob hL
 have o12:w1.cell? ⟨ob,12,none⟩=some (.int .i64 (om ob).place):=az.cell ho1 12
 have f12:=az.frozen ho1 12
 have b3:w1.cell? ⟨bb,3,none⟩=some (.int .i64 B.places):=h1.aB.cell 3
 have f3:=h1.aB.frozen 3
 have hne:ob≠bb:=az.ne ho1 h1.aB (by decide)
 have hne':¬ob=bb:=hne
 have hne2:¬bb=ob:=fun e=>hne e.symm
 have HM1:=ai m1
 have HO1:=ai ho1
 clear m1 ho1 h1 h2 hne
 go_wp2
 go_end0
 have k12:au (fun x=>x=ob) w1 (w1.setCell ⟨ob,12,none⟩ (.int .i64 p)):=(au.refl (fun x=>x=ob) w1).setCell (p:=⟨ob,12,none⟩) (.inl rfl) _
 have m2:=(ae HM1).aN (o':={ om ob with place:=p }) (ae HO1) k12 (az.set (ae HO1) 12 (.int .i64 p))
 refine⟨rfl,m2.XT (wrap64 (B.places-1)),h3.trans ((k12.mono (fun x e=>.inr (.inr ⟨i,hi,e.trans (ae Td)⟩))).setCell (p:=⟨bb,3,none⟩) (.inl (.inl rfl)) _)⟩
open Go.RowKit Go.Maps Go.Lib
theorem QX{s s':ByteArray}(h:sl s=sl s'):s=s':=by
 simp only[sl,Lit.string.injEq]at h
 exact ByteArray.ext (Array.ext' h)
def aQ.cO(V:aQ)(s:ByteArray)(b:Nat)(bH:Lm):aQ:={ V.list s b with lg:=V.lg.begun.aV [.cO s],lm:=bH }
end Go.Proofs.YtigaphnafnpfnaaGreatDoor
