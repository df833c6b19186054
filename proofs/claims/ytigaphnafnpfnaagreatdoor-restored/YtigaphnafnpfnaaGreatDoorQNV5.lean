import Derived.Test.YtigaphnafnpfnaaGreatDoorQNV4
set_option linter.unusedVariables false
set_option linter.unusedSimpArgs false
set_option maxHeartbeats 8000000
set_option maxRecDepth 100000
namespace Go.Proofs.YtigaphnafnpfnaaGreatDoor
open Go.RowKit
attribute [local go_sem ↓] Go.wp_at_zero Go.wp_at_succ
theorem jL{w:World}{bb:Nat}{B:Bk}{om:Nat->Ord}{L:Nat->Prop}(m:Mk w bb B om L){x lo:Nat}{q:Bool}(hx:L x):nP w lo q (fun b=>b=x):=nP.gK (fun b h=>by
 subst h;obtain⟨ix,ho⟩:=m.bz _ hx;exact⟨_,116,ho,by rintro (e | e | e | e | e | e | e | e | ⟨_,e⟩) <;> exact absurd e (by decide)⟩)
theorem GI{w:World}{bb:Nat}{B:Bk}{om:Nat->Ord}{L:Nat->Prop}(m:Mk w bb B om L){lo:Nat}{q:Bool}:nP w lo q (fun b=>b=bb):=nP.gK (fun b h=>by
 subst h;exact⟨_,158,m.aY.aF,by rintro (e | e | e | e | e | e | e | e | ⟨_,e⟩) <;> exact absurd e (by decide)⟩)
theorem uo{w:World}{bb:Nat}{B:Bk}{om:Nat->Ord}{L:Nat->Prop}(m:Mk w bb B om L){s lo:Nat}{q:Bool}(hs:s<2)(uP:∀g,ig (B.sl s)=some g->g<lo):nP w lo q (fun b=>b=bb\/dG B s b):=fun b h=>by
 rcases h with h | h | ⟨k,hk,h⟩
 ·exact GI m b h
 ·exact .inl (uP b h)
 ·exact jL m (m.mem s hs k hk) b h
theorem QY(B:Bk)(om:Nat->Ord)(oc ow s:Nat):(dU B om oc ow s).sl=B.sl:=by
 unfold dU;split <;> rfl
theorem N9{B:Bk}{om:Nat->Ord}{oc s:Nat}(hinj:ry (B.n s) (B.h s))(hn:0<B.n s)(k:Nat)(hk:k<(dU B om oc (B.h s 0) s).n s):∃k',k'<B.n s/\(dU B om oc (B.h s 0) s).h s k=B.h s k':=by
 unfold dU at hk ⊢;split at hk
 ·rename_i h0;rw[if_pos h0];obtain⟨k',hk',e,_⟩:=oG hinj hn k hk;exact⟨k',hk',e⟩
 ·rename_i h0;rw[if_neg h0];exact⟨k,hk,rfl⟩
theorem XH(bv bb oc s bm bo:Nat)(st0:MS)(lm:Lm)(L:Nat->Prop)(w:World)(bk:Nat->Nat)(lo:Nat)(old:List (List Value))(dW:List Nat)(cl:List Value)(hC:iw w bv bk lo false old st0.lg.nt dW lm cl)(hlo:lo<=w.heap.size)(hbk:∀k,k<st0.B.n s->bk (st0.B.h s k)=bb)(uP:∀g,ig (st0.B.sl s)=some g->g<lo)(hv:bG w bv bm bo st0.lg lm)(m:Mk w bb st0.B st0.om L)(hs:s<2)(hc:L oc)(iv:sV oc s st0)(M:Nat)(hM:M<1000000000)(hl1:st0.lg.tp.length+mu oc s st0<=M)(hl2:st0.lg.tr.length+mu oc s st0<=M)(hna:0<st0.lg.na)(iJ:st0.lg.na<=3000000)(hl3:st0.lg.nt.length+4 * mu oc s st0<=M) :
 CT 120 #[PP bv,PP bb,PP oc] w fun e w'=>e=.returned (.tuple #[]) /\
  Mk w' bb (mF oc s st0).B (mF oc s st0).om L/\(∃bM,bG w' bv bm bo (mF oc s st0).lg bM/\(∀b,bM.F b->lm.F b\/w.heap.size<=b)/\∃ext cl',iw w' bv bk lo false old (mF oc s st0).lg.nt (dW++ext) bM cl')/\sV oc s (mF oc s st0)/\aj (fun b=>b=bv\/lm.F b\/b=bb\/b=oc\/dG st0.B s b) w w':=by
 go_enter Tryz.func120,Tryz.ntmps120;go_wp2;go_loopg [6] (mu oc s st0) (fun k _ wr=>∃(st:MS) (Hz:Lm),mu oc s st<=k/\aZ oc s k st=mF oc s st0/\Mk wr bb st.B st.om L/\bG wr bv bm bo st.lg Hz/\sV oc s st/\(∀b,dG st.B s b->dG st0.B s b)/\aj (fun b=>b=bv\/lm.F b\/b=bb\/b=oc\/dG st0.B s b) w wr/\(∀b,Hz.F b->lm.F b\/w.heap.size<=b)/\st.lg.tp.length+k<=M/\st.lg.tr.length+k<=M/\st.lg.na=st0.lg.na/\st.lg.nt.length+4 * k<=M/\st.B.sl s=st0.B.sl s/\(∀k,k<st.B.n s->bk (st.B.h s k)=bb)/\∃ext cl',iw wr bv bk lo false old st.lg.nt (dW++ext) Hz cl')
 case atStart=>exact⟨st0,lm,Nat.le_refl _,rfl,m,hv,iv,fun _ h=>h,aj.refl _ _,fun _ h=>.inl h,hl1,hl2,rfl,hl3,rfl,hbk,[],cl,by rw[List.append_nil];exact hC⟩
 case round =>
  obtain⟨st,Hz,hk,hm,m1,hv1,iv1,sub,c1,hf1,hb1,hb2,hb3,hb4,hsl,hbk1,ext,Yw,cu1⟩:=hrel;obtain⟨HSL,Wx,HCU⟩:=eY hsl hbk1 cu1;rw[<-hb3]at hna iJ;obtain⟨HM,HF1,HB3⟩:=eY hm hf1 hb3;clear hm m hv iv hf1 hl1 hl2 hl3 hb3 hsl hbk1 cu1 hC hbk;obtain⟨ixc,hoc⟩:=m1.bz oc hc;have c8:CC wr oc 8 (II (st.om oc).aO):=hoc.cell 8;by_cases hp:0<(st.om oc).aO
  ·have Zx:CC wr oc 0 (II (st.om oc).id):=hoc.cell 0;have Yv:CC wr oc 1 (II (st.om oc).aG):=hoc.cell 1;have Zy:CC wr oc 2 (.string (st.om oc).sym):=hoc.cell 2;have Zz:CC wr oc 3 (II (st.om oc).side):=hoc.cell 3;have ZA:CC wr oc 4 (II (st.om oc).kind):=hoc.cell 4;have ZB:CC wr oc 5 (II (st.om oc).af):=hoc.cell 5;have ZC:CC wr oc 6 (II (st.om oc).aK):=hoc.cell 6;go_wp2_with fail;refine (kR bb st.B st.om (dm (st.om oc)) s wr m1.aY hs iv1.side).mono ?_;rintro e w2 ⟨rfl,k2⟩;have m2:=m1.aC k2 aU (fun _ _ x=>x) (fun _ _ _ _ x=>x);have hv2:=hv1.aB k2;clear Zx Zy Zz ZA ZB ZC c8;cases hf:dJ st.B st.om (dm (st.om oc)) s
   ·have hst:stops oc s st=true:=by simp[stops,hf]
    have HS:=au hst;clear hf hst;simp only[ji];go_wp2
    try simp only[Exit.inBlock,Exit.then]
    refine bodyPost_ret (results_none rfl _ _ _) rfl ?_;have hfin:mF oc s st0=st:=by rw[<-ae HM,zH (ae HS)]
    rw[hfin];exact⟨rfl,m2,⟨Hz,hv2,ae HF1,ext,Yw,(ae HCU).aB k2⟩,iv1,c1.trans k2.bI⟩
   ·rename_i b;obtain⟨hn,rfl⟩:=uf hf;have hst:stops oc s st=false:=by simp[stops,hf,hp]
    obtain⟨iv3,mu3,XY⟩:=oV iv1 hn hp;obtain⟨g,rfl⟩:∃g,gk=g+1:=⟨gk-1,by omega⟩;have hm3:aZ oc s g (bF oc s st)=mF oc s st0:=by rw[<-ae HM,aZ,hst];rfl
    obtain⟨H3,HI,HU⟩:=eY hm3 iv3 mu3;clear hf hst hm3 iv3 mu3 HM;obtain⟨adO,adh⟩:=m2.bz oc hc;obtain⟨adP,adk⟩:=m2.bz _ (m2.mem s hs 0 hn);have a1:CC w2 oc 1 (II (st.om oc).aG):=adh.cell 1;have b1:CC w2 (st.B.h s 0) 1 (II (st.om (st.B.h s 0)).aG):=adk.cell 1;have i0:=iv1.mem 0 hn;simp only[ji];by_cases ho:(st.om (st.B.h s 0)).aG=(st.om oc).aG
    ·have e1:((st.om (st.B.h s 0)).aG == (st.om oc).aG)=true:=by simp[ho]
     have HE:Hid (bF oc s st=⟨st.B.leave st.om s 0,aQ st.om (st.B.h s 0) (gz (st.om (st.B.h s 0))),st.lg.aX [.left (st.B.h s 0),.gp (st.B.h s 0) (st.om (st.B.h s 0))]⟩):=by show _=_;unfold bF;rw[if_pos ho]
     clear ho Yv;go_wp2;go_quiet (fail);go_wp2_with fail;have m2':=m2.aC ((aj.refl aJ w2).drewN nq) aU (fun _ _ x=>x) (fun _ _ _ _ x=>x);refine (qJ bb st.B st.om L s 0 _ m2' hs hn i0.1).mono ?_;rintro e w3 ⟨oP,cp3,rfl,f3,m3,k3⟩;clear a1 b1;go_wp2_with fail;refine (mV bb (st.B.h s 0) _ st.om L _ m3 (m2.mem s hs 0 hn)).mono ?_;rintro e w4 ⟨xB,cp4,rfl,f4,m4,k4⟩;have hv3:=(hv2.aB ((aj.refl aJ w2).drewN nq)).jF k3 (fun b h=>m2'.gK (by rcases h with h | h;exact .inl h;exact .inr (.inr ⟨s,hs,h⟩)));have hv4:=hv3.jF k4 (fun b h=>by subst h;exact m3.gK (.inr (.inl (m2.mem s hs 0 hn))));have hd2:aj aJ wr (w2.drewN nq):=k2.drewN nq;have szw:=c1.size;have o3:nP (w2.drewN nq) lo false (fun b=>b=bb\/dG st.B s b):=uo m2' hs (by rw[ae HSL];exact uP);have o4:nP w3 lo false (fun b=>b=st.B.h s 0):=jL m3 (m2.mem s hs 0 hn);have c4:=(((ae HCU).aB hd2).aC k3 o3).aC k4 o4;have i3:bU w3 bv bk lo (.left (st.B.h s 0)) (.func oP #[] cp3):=⟨_,_,rfl,by
      show jo w3 (bk (st.B.h s 0)) (st.B.h s 0) lo oP cp3;rw[ae Wx 0 hn];exact f3.mono (by have:=hd2.size;omega)⟩
     have i3':=i3.aC (q:=false) (fun h=>by cases h) k4 o4;have i4:bU w4 bv bk lo (.gp (st.B.h s 0) (st.om (st.B.h s 0))) (.func xB #[] cp4):=⟨_,_,rfl,f4.mono (by have:=hd2.size;have:=k3.size;omega)⟩;have rZ:=au (wJ bv bm bo _ Hz (.left (st.B.h s 0)) (.gp (st.B.h s 0) (st.om (st.B.h s 0))) oP xB cp3 cp4 w4 bk lo false old _ _ hv4 c4 (fun h=>by cases h) (fun h=>by cases h) i3' i4 hna iJ (by omega));go_wp2_with fail;refine (ae rZ).mono ?_;rintro e w5 ⟨rfl,vw,hv5,hf5,k5',-,c5⟩;have k5:aj (fun b=>Hz.F b) w4 w5:=k5'.mono (fun b h=>DR h);have VZ:=au c5;clear c5 k5' c4 i3 i3' i4 o3 o4 f3 f4;go_wp2;go_roundg g
     case measure=>omega
     case rel =>
      have m5:=m4.jw hv4 (k5.mono (fun b h=>.inr h));have hh:=ae HE;have hi:=ae HI;have hu:=ae HU;have h3:=ae H3;rw[hh]at hi hu h3 XY;have Gh:aj (fun b=>b=bv\/lm.F b\/b=bb\/b=oc\/dG st0.B s b) w w4:=((c1.trans k2.bI).drewN _).trans ((k3.mono (fun b h=>by rcases h with h | h;exact lN h;exact QF (sub b h))).trans (k4.mono (fun b h=>QF (sub b (.inr ⟨0,hn,h⟩)))));refine⟨_,vw,by omega,h3,m5,hv5,hi,fun b hb=>sub b (XY b hb),Gh.from (k5.mono (fun b h=>(ae HF1 b h).imp_left (fun h=>.inr (.inl h)))),fun b hb=>?_,by simp only[Lg.aX];omega,by simp only[Lg.aX];omega,ae HB3,by simp only[Lg.aX,List.length_append,List.length_cons,List.length_nil];omega,ae HSL,fun k hk=>?_,ext,_,ae VZ⟩
      ·rcases hf5 b hb with h | h
       ·exact ae HF1 b h
       ·exact .inr (Nat.le_trans Gh.size h)
      ·obtain⟨k',hk',e',_⟩:=oG iv1.inj hn k hk;show bk ((st.B.leave st.om s 0).h s k)=bb;rw[e'];exact ae Wx k' hk'
    ·have e1:((st.om (st.B.h s 0)).aG == (st.om oc).aG)=false:=by simp[ho]
     have HE:Hid (bF oc s st=⟨dU st.B st.om oc (st.B.h s 0) s,aV st.om oc (st.B.h s 0),(dn st.lg st.om oc (st.B.h s 0)).jT (iY st.B st.om oc (st.B.h s 0))⟩):=by show _=_;unfold bF;rw[if_neg ho]
     clear ho Yv;go_wp2;go_quiet (fail);go_wp2_with fail;refine (X4 bv bb oc s bm bo st.lg Hz st.B st.om L _ bk lo old _ _ (((ae HCU).aB k2).aB ((aj.refl aJ w2).drewN _)) (by have:=c1.size;have:=k2.size;have:=((aj.refl aJ w2).drewN nq).size;omega) (ae Wx 0 hn) (by rw[ae HSL];exact uP) (hv2.aB ((aj.refl aJ w2).drewN _)) (m2.aC ((aj.refl aJ w2).drewN _) aU (fun _ _ x=>x) (fun _ _ _ _ x=>x)) hs hn hc i0.2.2.2 i0.1 (by omega) (by omega) hna iJ (by omega)).mono ?_;rintro e w3 ⟨rfl,m3,lZ,hv3,hf3,k3,x3,uI,IU⟩;have RG:=au IU;clear IU;clear a1 b1;go_wp2;go_roundg g
     case measure=>omega
     case rel =>
      have hh:=ae HE;have hi:=ae HI;have hu:=ae HU;have h3:=ae H3;rw[hh]at hi hu h3 XY;have hsz:=((c1.trans k2.bI).drewN nq).size;have g4:=y9 st.lg st.om oc (st.B.h s 0);refine⟨_,lZ,by omega,h3,m3,hv3,hi,fun b hb=>sub b (XY b hb),((c1.trans k2.bI).drewN _).from (k3.mono (fun b h=>?_)),fun b hb=>?_,by simp only[Lg.jT,Lg.told,Lg.aC,Lg.aX,oH,List.length_append,List.length_cons,List.length_nil];omega,by simp only[Lg.jT,Lg.told,Lg.aC,Lg.aX,gW,List.length_append,List.length_cons,List.length_nil];omega,by simp only[Lg.jT,Lg.told,Lg.aC,Lg.aX,y8];exact ae HB3,by simp only[Lg.jT,Lg.told,Lg.aC,Lg.aX,List.length_append,List.length_cons,List.length_nil];omega,by show (dU st.B st.om oc (st.B.h s 0) s).sl s=_;rw[QY];exact ae HSL,fun k hk=>?_,ext++[x3],uI,by rw[<-List.append_assoc];exact ae RG⟩
      ·rcases h with h | h | h | h | h
       ·exact .inl (.inl h)
       ·exact (ae HF1 b h).imp_left (fun h=>.inr (.inl h))
       ·exact .inl (lN h)
       ·exact .inl (jZ h)
       ·exact .inl (QF (sub b h))
      ·rcases hf3 b hb with h | h
       ·exact ae HF1 b h
       ·exact .inr (Nat.le_trans hsz h)
      ·obtain⟨k',hk',e'⟩:=N9 (om:=st.om) (oc:=oc) iv1.inj hn k hk;show bk ((dU st.B st.om oc (st.B.h s 0) s).h s k)=bb;rw[e'];exact ae Wx k' hk'
  ·have hst:stops oc s st=true:=by simp[stops,hp]
   have HS:=au hst;clear hst;go_wp2;go_end0;have hfin:mF oc s st0=st:=by rw[<-ae HM,zH (ae HS)]
   rw[hfin];exact⟨rfl,m1,⟨Hz,hv1,ae HF1,ext,Yw,ae HCU⟩,iv1,c1⟩
def yA(c:Value)(b:Nat):Prop:=∃fn cp,c=.func fn #[] cp/\dD b∈cp.toList
theorem fZ{a b:Nat}(h:dD a=dD b):a=b:=by
 simp only[dD,Value.pointer.injEq,Option.some.injEq,Addr.mk.injEq]at h;exact h.1
theorem bU.cap{w:World}{bv:Nat}{bk:Nat->Nat}{lo:Nat}{d:dY}{c:Value}(h:bU w bv bk lo d c){b:Nat}(hb:yA c b):lo<=b/\b<w.heap.size:=by
 obtain⟨fn,cp,rfl,h⟩:=h;obtain⟨fn',cp',e,hm⟩:=hb;simp only[Value.func.injEq]at e;obtain⟨_,_,rfl⟩:=e;cases d with
 | gp b od =>
   obtain⟨e,H,h0,rfl,h1,h2⟩:=h;have:=h1.lt;have:=h2.lt;simp at hm;rcases hm with hm | hm <;> (have:=fZ hm;omega)
 | left b =>
   obtain⟨e,H,h0,rfl,h1,h2⟩:=h;have:=h1.lt;have:=h2.lt;simp at hm;rcases hm with hm | hm <;> (have:=fZ hm;omega)
 | fC b p =>
   obtain⟨e,H,h0,rfl,⟨h1,h2⟩,h3⟩:=h;have:=h1.lt;have:=h2.lt;have:=h3.lt;simp at hm;rcases hm with hm | hm | hm <;> (have:=fZ hm;omega)
 | entered id =>
   obtain⟨e,H,cs,h0,rfl,h1,h2,h3⟩:=h;have:=h1.lt;have:=h2.lt;simp at hm;rcases hm with hm | hm <;> (have:=fZ hm;omega)
 | di s =>
   obtain⟨e,H,K,h0,hK,rfl,h1,h2⟩:=h;have:=h1.lt;have:=h2.lt;simp at hm;rcases hm with hm | hm <;> (have:=fZ hm;omega)
 | iZ t =>
   obtain⟨e,H,h0,rfl,h1,h2⟩:=h;have:=h1.lt;have:=h2.lt;simp at hm;rcases hm with hm | hm <;> (have:=fZ hm;omega)
 | jU tb =>
   obtain⟨e,H,K,h0,hK,rfl,h1,h2⟩:=h;have:=h1.lt;have:=h2.lt;simp at hm;rcases hm with hm | hm <;> (have:=fZ hm;omega)
 | iW tb p =>
   obtain⟨e,H,K,J,h0,hK,hJ,rfl,h1,h2,h3⟩:=h;have:=h1.lt;have:=h2.lt;have:=h3.lt;simp at hm;rcases hm with hm | hm | hm <;> (have:=fZ hm;omega)
 | closed =>
   obtain⟨e,H,h0,rfl,h1⟩:=h;have:=h1.lt;simp at hm;have:=fZ hm;omega
theorem iw.cap{w:World}{bv:Nat}{bk:Nat->Nat}{lo:Nat}{q:Bool}{old:List (List Value)}{nt:List dY}{dW:List Nat}{m:Lm}{cl:List Value}(h:iw w bv bk lo q old nt dW m cl){c:Value}(hc:c∈cl){b:Nat}(hb:yA c b):lo<=b/\b<w.heap.size:=by
 obtain⟨i,hi⟩:=List.mem_iff_getElem?.1 hc;have hil:=(List.getElem?_eq_some_iff.1 hi).1;rw[h.len]at hil;exact (h.nH i _ c (List.getElem?_eq_getElem hil) hi).cap hb
theorem aaB(bb ob s:Nat)(B:Bk)(om:Nat->Ord)(ix:Int)(w:World)(hb:cO w bb B om)(ho:df w ob (om ob) ix)(hs:s<2)(hside:(om ob).side=(s:Int))(hnew:∀t,t<2->∀k,k<B.n t->B.h t k≠ob)(hn:B.n s<1000) :
 CT 122 #[PP bb,PP ob] w fun e w'=>e=.returned (.func (.func 153) #[] #[PP w.heap.size,PP (w.heap.size+1),PP (w.heap.size+2)])/\xe w' w.heap.size bb ob (om ob).place /\
  ∃g cap',cO w' bb (B.rest (aQ om ob { om ob with place:=wrap64 (B.places+1) }) s ob g cap') (aQ om ob { om ob with place:=wrap64 (B.places+1) })/\aj (fun b=>b=bb\/b=ob\/dG B s b) w w'/\(ig (B.sl s)=some g\/w.heap.size+3<=g):=by
 have hne:ob≠bb:=aA.ne ho hb.aF (by decide);obtain⟨dK,TQ⟩:=kL (aQ om ob { om ob with place:=wrap64 (B.places+1) });rw[<-TQ];obtain⟨w0,hw0⟩:=kL ((w.setCell ⟨bb,3,none⟩ (II (wrap64 (B.places+1)))).setCell ⟨ob,12,none⟩ (II (wrap64 (B.places+1))));have k0:aj (fun b=>b=bb\/b=ob) w w0:=by
  rw[hw0];exact ((aj.refl (fun b=>b=bb\/b=ob) w).setCell (p:=⟨bb,3,none⟩) (.inl (.inl rfl)) _).setCell (p:=⟨ob,12,none⟩) (.inl (.inr rfl)) _
 have hs0:w0.heap.size=w.heap.size:=by rw[hw0];simp[World.setCell]
 have hb0:aA w0 bb (B.cells.setIfInBounds 3 (II (wrap64 (B.places+1)))) 158:=by rw[hw0];exact (hb.aF.set 3 _).other (fun e=>hne e.symm) _
 have ho0:df w0 ob (dK ob) ix:=by rw[hw0,TQ,ai];exact (ho.other hne _).set 12 _
 have abK:∀t,t<2->jk w0 (B.sl t) (B.n t) (B.cap t) (B.h t) dK:=fun t ht=>((hb.side t ht).aC k0 (fun b h hx=>by
  rcases hx with rfl | rfl
  ·exact hb.Ou ht h
  ·rcases h with h | ⟨k,hk,e⟩
   ·exact (hb.side t ht).ne ho (by decide) h
   ·exact hnew t ht k hk e.symm)).om (fun k hk=>by rw[TQ,ah _ _ (hnew t ht k hk)])
 have hbk0:cO w0 bb { B with places:=wrap64 (B.places+1) } dK:=⟨hb0,abK,hb.apart,hb.vZ⟩;obtain⟨w1,hw1⟩:=kL ((((w0.alloc (.cells #[PP bb] 111)).alloc (.cells #[PP ob] 114)).alloc (.cells #[II (om ob).place] 3)).drew);have k1:aj aJ w0 w1:=by rw[hw1];exact ((((aj.refl aJ w0).alloc _).alloc _).alloc _).drew
 have hs1:w1.heap.size=w.heap.size+3:=by rw[hw1];simp[hs0]
 have pa:xe w1 w.heap.size bb ob (om ob).place:=by
  rw[hw1,<-hs0];exact⟨⟨((aA.new w0 _ _).alloc _).alloc _,(aA.sQ w0 _ _ _).alloc _⟩,aA.UK w0 _ _ _ _⟩
 have hpush:=Et bb ob s { B with places:=wrap64 (B.places+1) } dK ix w1 (hbk0.aC k1 (fun _ _ x=>x)) (k1.aF ho0 aU) hs (by rw[TQ,ai];exact hside) hnew hn;have lb:=hb.aF.lt;have lo:=ho.lt;have sdl:∀b,dG B s b->b<w.heap.size:=fun b h=>hb.Fb hs h
 have HFin:Hid (∀w',(∃g cap',cO w' bb (Bk.push { B with places:=wrap64 (B.places+1) } dK s ob g cap') dK/\aj (fun b=>b=bb\/b=ob\/dG { B with places:=wrap64 (B.places+1) } s b) w1 w'/\(ig (B.sl s)=some g\/w1.heap.size<=g)) ->
  xe w' w.heap.size bb ob (om ob).place/\∃g cap',cO w' bb (B.rest dK s ob g cap') dK/\aj (fun b=>b=bb\/b=ob\/dG B s b) w w'/\(ig (B.sl s)=some g\/w.heap.size+3<=g)):=by
  rintro w' ⟨g,cap',h1,h2,h3⟩;have out:∀b,w.heap.size<=b->¬(b=bb\/b=ob\/dG B s b):=by
   rintro b h (e | e | e)
   ·omega
   ·omega
   ·have:=sdl b e;omega
  refine⟨pa.aC (S:=fun b=>b=bb\/b=ob\/dG B s b) h2 (out _ (Nat.le_refl _)) (out _ (by omega)) (out _ (by omega)),g,cap',h1,((k0.mono (fun b hb=>by rcases hb with h | h;exact .inl h;exact .inr (.inl h))).trans k1.bI).trans h2,h3.imp_right (fun h=>?_)⟩;omega
 have HR:=au hpush;have HW:Hid (w1=(((((w.setCell ⟨bb,3,none⟩ (II (wrap64 (B.places+1)))).setCell ⟨ob,12,none⟩ (II (wrap64 (B.places+1)))).alloc (.cells #[PP bb] 111)).alloc (.cells #[PP ob] 114)).alloc (.cells #[II (om ob).place] 3)).drew):=by
  show _=_;rw[hw1,hw0]
 have c3:CC w bb 3 (II B.places):=hb.aF.cell 3;have f3:=hb.aF.frozen 3;have o12:CC w ob 12 (II (om ob).place):=ho.cell 12;have fo:=ho.frozen 12;have y0:CC w1 w.heap.size 0 (PP bb):=pa.wL.aY.cell 0;have y1:CC w1 (w.heap.size+1) 0 (PP ob):=pa.wL.ord.cell 0;have lb1:bb<w.heap.size+1:=by omega
 have lb2:bb<w.heap.size+1+1:=by omega
 have lo1:ob<w.heap.size+1:=by omega
 have lo2:ob<w.heap.size+1+1:=by omega
 have ls2:w.heap.size<w.heap.size+1+1:=by omega
 have nb1:¬w.heap.size=bb:=by omega
 have nb2:¬w.heap.size+1=bb:=by omega
 clear hpush abK ho0 hb0 k0 TQ hw1 hw0 hbk0 sdl hs0 hs1 k1 pa;go_enter Tryz.func122,Tryz.ntmps122;go_wp2;go_region;rw[<-ae HW];clear c3 f3 o12 fo;go_wp2_with fail;refine (ae HR).mono ?_;rintro e w2 ⟨rfl,hw2⟩;have hf:=ae HFin w2 hw2;have HF:=au hf;clear hf hw2;go_wp2;go_ret;exact⟨rfl,ae HF⟩
theorem GY(bb ob s:Nat)(B:Bk)(om:Nat->Ord)(ix:Int)(w:World)(hb:cO w bb B om)(ho:df w ob (om ob) ix)(hs:s<2)(hside:(om ob).side=(s:Int))(hnew:∀t,t<2->∀k,k<B.n t->B.h t k≠ob)(hn:B.n s<1000) :
 CT 122 #[PP bb,PP ob] w fun e w'=>∃fn cp,e=.returned (.func fn #[] cp)/\lC w' bb ob (om ob).place w.heap.size fn cp/\(∀b,yA (.func fn #[] cp) b->b<w.heap.size+3) /\
  ∃g cap',cO w' bb (B.rest (aQ om ob { om ob with place:=wrap64 (B.places+1) }) s ob g cap') (aQ om ob { om ob with place:=wrap64 (B.places+1) })/\aj (fun b=>b=bb\/b=ob\/dG B s b) w w'/\(ig (B.sl s)=some g\/w.heap.size+3<=g):=by
 refine (aaB bb ob s B om ix w hb ho hs hside hnew hn).mono ?_;rintro e w' ⟨rfl,h0,h1⟩;refine⟨_,_,rfl,⟨rfl,_,Nat.le_refl _,rfl,h0⟩,fun b hc=>?_,h1⟩;obtain⟨fn,cp,e,hm⟩:=hc;simp only[Value.func.injEq]at e;obtain⟨_,_,rfl⟩:=e;have hm':dD b∈[dD w.heap.size,dD (w.heap.size+1),dD (w.heap.size+2)]:=hm;simp at hm';rcases hm' with hm' | hm' | hm' <;> (have:=fZ hm';omega)
end Go.Proofs.YtigaphnafnpfnaaGreatDoor
