import Derived.Test.YtigaphnafnpfnaaGreatDoorQNV39
set_option linter.unusedVariables false
set_option linter.unusedSimpArgs false
set_option maxHeartbeats 8000000
set_option maxRecDepth 100000
namespace Go.Proofs.YtigaphnafnpfnaaGreatDoor
open Go.RowKit
attribute [local go_sem ↓] Go.wp_at_zero Go.wp_at_succ
def FW(o:Ord):Ord:=if o.kind=1 then { o with exp:=wrap64 (o.exp+o.aO),aO:=0 } else o
def RS.qg(S:RS):RS:={ S with l:=S.l.map FW,told:=S.told++[⟨0,4,⟨0,⟨#[]⟩,0,0,0,0,S.day⟩⟩],day:=wrap64 (S.day+1) }
open Go.RowKit Go.Maps Go.Shelf
theorem dS.OV{w:World}{bv bm bo k:Nat}{V:aS}{A:List (Value × List Value)}{a:Value × List Value}(R:dS w bv bm bo V)(hA:V.lm.ac=A++[a])(hk:A.length=k)(h0:0<a.2.length) :
 ∃g cap gf L9 cs,V.lm.av=.slice (some ⟨g,0,none⟩) (k+1) cap/\k+1<=cap/\(∃cur,aA w g cur 109)/\w.cell? ⟨g,k,none⟩=some a.1/\a.1=.slice (some ⟨gf,0,none⟩) a.2.length L9/\aA w gf cs 1/\(∀j (hj:j<a.2.length),w.cell? ⟨gf,j,none⟩=some a.2[j]):=by
 have hrow:=R.aP.aP.act.row;have yE:V.lm.ac.length=k+1:=by rw[hA,List.length_append,hk];rfl
 rw[yE]at hrow;have hown:=R.aP.aP.act.own a (by rw[hA];simp);rcases hrow.2 with⟨_,e⟩ | ⟨g,cap,cur,hav,_,hg,h1,h2,h3,h4⟩
 ·omega
 rcases hown.2 with⟨_,e⟩ | ⟨gf,L9,cs,Qe,_,hgf,f1,f2,f3,f4⟩
 ·omega
 refine⟨g,cap,gf,L9,cs,hav,h1,⟨cur,hg⟩,?_,Qe,hgf,fun j hj=>?_⟩
 ·have hb:aA w g cur 109:=hg;rw[hb.cell k];have:(cur.toList.take ((k+1) * 1))[k]?=some a.1:=by
   rw[h4,hA,List.map_append];rw[List.getElem?_append_right (by rw[List.length_map];omega),List.length_map,hk,Nat.sub_self]
   rfl
  rw[List.getElem?_take_of_lt (by omega)]at this
  simpa using this
 ·have hb:aA w gf cs 1:=hgf;rw[hb.cell j];have:(cs.toList.take (a.2.length * 1))[j]?=some a.2[j]:=by rw[f4,List.getElem?_eq_getElem hj]
  rw[List.getElem?_take_of_lt (by omega)]at this
  simpa using this
theorem aaq(V:aS){G':Lg}{bM:Lm}(h1:G'.tr=V.lg.tr)(h2:G'.day=V.lg.day)(h3:bM.tb=V.lm.tb):dQ V { V with lg:=G',lm:=bM } :=
 ⟨rfl,fun _ _=>rfl,fun _ _=>rfl,fun _ _=>rfl,fun _ _ _ _ _=>Iff.rfl,rfl,rfl,fun _ _=>rfl,h1,h2,h3⟩
theorem Oi{k:Nat}(h:k<1000000000):wrap64 (k:Int)=(k:Int)/\IntKind.i64.wrap (k:Int)=(k:Int)/\IntKind.i64.wrap ((k:Int)+1)=(k:Int)+1:=by
 refine⟨?_,?_,?_⟩
 ·unfold wrap64;omega
 ·rw[IntKind.wrap_i64];omega
 ·rw[IntKind.wrap_i64];omega
theorem VS(bv bm bo:Nat)(V V0 V1:aS)(n:mY)(l:List Nat)(A:List (Value × List Value))(a:Value × List Value)(QB:List dY)(w:World)(R:dS w bv bm bo V)(hs:HS V)(hA:V.lm.ac=A++[a])(ha:a.2=n.cl)(fns:Ri bv bm bo V n w)(u:jO n.bk (KK l) n.ds n.Ts V0 V1)(hl:dQ V1 V)(hll:l.length<1000)(hn0:0<n.ds.length)(hn:n.ds.length<=100000)
 (hnt:∀a,A.getLast?=some a->a.2.length=QB.length) (htp:V.lg.tp.length+100000<1000000000) (hud:V.lg.ud+V.lg.na<3000000) :
 CT 23 #[PP bv] w fun e w'=>e=.returned (II 0)/\WT bv bm bo V V0 n.Ts.flatten (A.map Prod.snd) QB w w':=by
 obtain⟨k,hk⟩:=mf A.length;have hna:V.lg.na=k+1:=by rw[<-R.aP.aP.act.len,hA,List.length_append,hk];rfl
 have ha0:0<a.2.length:=by rw[ha,fns.len];exact hn0
 obtain⟨m,hm⟩:=kL (k+1);obtain⟨g,cap,gf,L9,cs,hav,-,-,-,ha1,-,-⟩:=R.OV hA hk ha0;have v5:CC w bv 5 (.slice (some ⟨g,0,none⟩) m cap):=(R.dC.cell 5).trans (by rw[hm,<-hav];rfl);have hkm:k<m:=by omega
 have hki:(m:Int)-1=(k:Int):=by omega
 obtain⟨hkw,adJ,adK⟩:=Oi (k:=k) (by omega);have hk0:¬((k:Int)<0):=by omega
 obtain⟨st,e0,e1,hst,hkk⟩:=u.aaE;have eT:=u.len;have HWr:=au (Fq bv bm bo V.lg V.lm (V.lg.ud+V.lg.na) ⟨#[117,110,100,111]⟩ w R.aP hud (by decide) (by decide));have aaX:Hid (∀w1 jv jn,fU w1 bv bm bo (V.lg.sF ⟨#[117,110,100,111]⟩) { V.lm with jv:=jv,jn:=jn } (V.lg.ud+V.lg.na+1)->(∀b,jv.ownBlock=some b->V.lm.jv.ownBlock=some b\/w.heap.size<=b)->aj (fun b=>b=bv\/V.lm.jv.ownBlock=some b) w w1 ->
  w1.cell? ⟨bv,5,none⟩=some (.slice (some ⟨g,0,none⟩) m cap)/\w1.cell? ⟨g,k,none⟩=some (.slice (some ⟨gf,0,none⟩) n.ds.length L9) /\
  CT 45 #[.slice (some ⟨gf,0,none⟩) n.ds.length L9] w1 fun e w2=>e=.returned (.tuple #[])/\∃Vc,dS w2 bv bm bo Vc/\HS Vc/\dQ V0 Vc/\Vc.lg.tp=(V.lg.nC n.Ts.flatten.reverse).tp/\Vc.lg.na=V.lg.na/\(Vc.lg.ud=V.lg.ud+1/\Vc.lg.js=V.lg.js++[⟨#[117,110,100,111]⟩])/\Vc.lm.ac=A++[a]/\aj (dO bv bm bo V) w w2/\∀x,dO bv bm bo Vc x->dO bv bm bo V x\/w.heap.size<=x):=by
  intro w1 jv jn hL1 hF1 k1;obtain⟨R1,Wj,f1⟩:=R.sF hL1 hF1 k1;obtain⟨g',cap',gf',adD,cs',acV,_,_,cg,ca,hcs,hcell⟩:=R1.OV (A:=A) (a:=a) hA hk ha0;have eav:(V.lm.av:Value)=.slice (some ⟨g',0,none⟩) (k+1) cap':=acV;rw[hav]at eav;simp only[Value.slice.injEq,Option.some.injEq,Addr.mk.injEq]at eav;obtain⟨⟨e2,_⟩,_,e3⟩:=eav;subst e2 e3;rw[ha1]at ca;simp only[Value.slice.injEq,Option.some.injEq,Addr.mk.injEq]at ca;obtain⟨⟨e4,_⟩,_,e5⟩:=ca;subst e4 e5;have hcl:a.2.length=n.ds.length:=by rw[ha,fns.len]
  refine⟨(R1.dC.cell 5).trans (by show some V.lm.av=_;rw[hav,hm]),by rw[cg,ha1,hcl],?_⟩;have abd:=fns.aC Wj f1;have lk1:dQ V { V with lg:={ V.lg.sF ⟨#[117,110,100,111]⟩ with ud:=V.lg.ud+1 },lm:={ V.lm with jv:=jv,jn:=jn } }:=⟨rfl,fun _ _=>rfl,fun _ _=>rfl,fun _ _=>rfl,fun _ _ _ _ _=>Iff.rfl,rfl,rfl,fun _ _=>rfl,rfl,rfl,rfl⟩;have gd:∀j (h:j<n.ds.length) (h2:j<n.cl.length),n.ds.getD j .closed=n.ds[j]/\n.cl.getD j (.tuple #[])=n.cl[j]:=fun j h h2=>by
   rw[List.getD_eq_getElem?_getD,List.getD_eq_getElem?_getD,List.getElem?_eq_getElem h,List.getElem?_eq_getElem h2];exact⟨rfl,rfl⟩
  have hl2:=fns.len;refine (JM bv bm bo 0 n.ds.length gf L9 n.bk (fun i=>n.ds.getD i .closed) (fun i=>n.Ts.getD i []) st (fun i=>n.cl.getD i (.tuple #[])) l { V with lg:={ V.lg.sF ⟨#[117,110,100,111]⟩ with ud:=V.lg.ud+1 },lm:={ V.lm with jv:=jv,jn:=jn } } w1 R1 hs (by rw[e1];exact hl.trans lk1) (fun j hj=>?_) (fun j hj=>?_) (fun j hj x hx=>?_) (fun j hj x hx=>(hkk j hj).1 x hx) hll (by omega) (by show V.lg.tp.length+_<_;omega) (fun j hj=>(hkk j hj).2) ⟨a,by show a∈V.lm.ac;rw[hA];simp,by rw[ha1];rfl⟩ hcs.lt (fun j hj=>?_)).mono ?_
  ·have h:=hst j hj (by omega);simp only[(gd j hj (by omega)).1];rw[List.getD_eq_getElem?_getD,List.getElem?_eq_getElem (show j<n.Ts.length by omega)];exact h
  ·simp only[(gd j hj (by omega)).1,(gd j hj (by omega)).2];exact abd.nH j _ _ (List.getElem?_eq_getElem hj) (List.getElem?_eq_getElem (by omega))
  ·simp only[(gd j hj (by omega)).2]at hx;exact abd.off _ (List.getElem_mem (by omega)) x hx
  ·simp only[(gd j hj (by omega)).2];rw[hcell j (by omega)];simp only[ha]
  ·rintro e w2 ⟨rfl,Vc,R2,hs2,ada,Qh,iJ,MN,TM,I5,k2,f2⟩;refine⟨rfl,Vc,R2,hs2,by rw[<-e0];exact ada,?_,iJ,MN,by rw[I5];exact hA,Wj.from (k2.mono (fun x hx=>f1 x hx)),fun x hx=>?_⟩
   ·rw[Qh,<-eT,DI n.Ts _ (Nat.le_refl _),Nat.sub_self,List.drop_zero,I4 (fun T hT=>?_)]
    ·exact KW (G:={ V.lg.sF ⟨#[117,110,100,111]⟩ with ud:=V.lg.ud+1 }) (G':=V.lg) rfl _
    ·obtain⟨j,hj,rfl⟩:=List.mem_iff_getElem.1 hT;exact (hst j (by omega) hj).one
   ·rcases f2 x hx with h | h
    ·exact f1 x h
    ·exact .inr (Nat.le_trans Wj.size h)
 have lv:=R.dC.lt;obtain⟨HNa,HKk,HRR⟩:=eY hna hk R;have hkb:k<3000000:=by omega
 clear hkk hst e0 e1 eT u hl hs fns R hav ha ha0 ha1 hna htp hud hll hn hm hk hn0;go_enter Tryz.func23,Tryz.ntmps23;go_wp2_with fail;refine (ae HWr).mono ?_;rintro e w1 ⟨rfl,jv,jn,hL1,hF1,k1⟩;obtain⟨y5,yk,abf⟩:=ae aaX w1 jv jn hL1 hF1 k1;obtain⟨HP2,HV1⟩:=dE abf hL1.dC;clear v5 hL1 hF1 k1 abf HWr aaX;go_wp2_with fail;refine (ae HP2).mono ?_;rintro e w2 ⟨rfl,Vc,R2,hs2,hl2,Qh,iJ,MN,I5,k2,f2⟩;obtain⟨HR2,HS2,HL2,acL,adH,aa0,adG,zn,HF2⟩:=YF R2 hs2 hl2 Qh iJ MN I5 k2 f2;have hrow:=R2.aP.aP.act.row;have yE:Vc.lm.ac.length=k+1:=by rw[I5,List.length_append,ae HKk];rfl
 rw[yE]at hrow;obtain⟨g2,cap2,acP,Qe,hb2,hc2,hz2⟩:∃g cap cur,Vc.lm.av=.slice (some ⟨g,0,none⟩) (k+1) cap/\aA w2 g cur 109/\k+1<=cap/\cur.size=cap * 1:=by
  rcases hrow.2 with⟨_,e⟩ | ⟨g,cap,cur,e,_,hg,h1,h2,h3,_⟩
  ·omega
  ·exact⟨g,cap,cur,e,hg,h1,h3⟩
 have z5:CC w2 bv 5 (.slice (some ⟨g2,0,none⟩) (k+1) cap2):=(R2.dC.cell 5).trans (by rw[<-Qe];rfl);have hgb:¬g2=bv:=aA.ne hb2 R2.dC (by decide);have hbg:¬bv=g2:=fun e=>hgb e.symm
 obtain⟨cv,cn⟩:∃cv,w2.cell? ⟨g2,k,none⟩=some cv:=⟨acP[k]'(by omega),(hb2.cell k).trans (Array.getElem?_eq_getElem (by omega))⟩;have fn:=hb2.frozen k;have HD:=au (IV g2 k cap2 w2 _ (by omega) hc2 cn fn);have Za:=au (fun (W:World) (kW:aj aJ w2 W)=>(R2.aP.aB kW).acQ (QB:=QB) I5 (ae HKk) Qe hnt);obtain⟨HV2,HAv⟩:=dE R2.dC Qe;have f5:=R2.dC.frozen 5;have lv2:=R2.dC.lt;clear R2 hs2 hl2 Qh iJ MN I5 k2 f2 hrow yE Qe hb2 hc2 hz2 y5 yk HP2;go_wp2_with fail;refine (ae HD).mono ?_;rintro e w3 ⟨rfl,q2,hw3⟩;have HW3:=au hw3;have c3:w3.cell? ⟨bv,5,none⟩=some (.slice (some ⟨g2,0,none⟩) (k+1) cap2):=by rw[hw3];exact (aA.cell (((ae HV2).drewN _).other hbg _) 5).trans (by rw[<-ae HAv];rfl)
 have f3:w3.frozen? ⟨bv,5,none⟩=false:=by rw[hw3];exact aA.frozen (((ae HV2).drewN _).other hbg _) 5
 clear hw3 cn fn z5 f5 HD;go_wp2;go_ret;refine⟨rfl,?_⟩;obtain⟨c1,c2,c4⟩:=ae Za _ ((aj.refl aJ w2).drewN q2);rw[<-ae HW3]at c1 c2;have kq:aj (fun b=>b=bv\/Vc.lm.av.ownBlock=some b) w2 (w3.setCell ⟨bv,5,none⟩ (.slice (some ⟨g2,0,none⟩) k cap2)):=((aj.refl aJ w2).drewN q2).bI.trans c2;have kF:aj (fun b=>b=bv\/Vc.lm.F b) w2 (w3.setCell ⟨bv,5,none⟩ (.slice (some ⟨g2,0,none⟩) k cap2)):=kq.mono (fun b hb=>hb.imp_right (fun h=>jZ h));have R3:=(ae HR2).jM c1 kF;have kf:aj (dO bv bm bo Vc) w2 (w3.setCell ⟨bv,5,none⟩ (.slice (some ⟨g2,0,none⟩) k cap2)):=kF.mono (fun b hb=>by
  rcases hb with h | h
  ·exact .inl h
  ·exact vU h)
 refine⟨_,R3,ae HS2,(ae HL2).trans (aaq _ rfl rfl rfl),ae acL,by show k+1=V.lg.na;rw[ae HNa],⟨by show Vc.lg.ud+1=_;rw[(ae aa0).1],(ae aa0).2⟩,rfl,rfl,(ae zn).from (kf.mono (ae HF2)),fun x hx=>?_⟩;have h:dO bv bm bo Vc x:=by
  rcases hx with h | h | h | h | h | h
  ·exact .inl h
  ·exact .inr (.inl h)
  ·exact lN h
  ·exact jZ h
  ·exact qm h
  ·exact vU (c4 x h)
 exact ae HF2 x h
end Go.Proofs.YtigaphnafnpfnaaGreatDoor
