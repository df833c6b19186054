import Derived.Test.YtigaphnafnpfnaaGreatDoorQVV29
set_option linter.unusedVariables false
set_option linter.unusedSimpArgs false
set_option maxHeartbeats 8000000
set_option maxRecDepth 100000
namespace Go.Proofs.YtigaphnafnpfnaaGreatDoor
open Go.RowKit
attribute [local go_sem ↓] Go.wp_at_zero Go.wp_at_succ
def RS.iw(S:RS)(k:Nat)(x:Tg)(b:Int):RS:=(S.aay k ⟨{ x.t with af:=b },x.holds⟩).aaD 3 { x.t with af:=b }
open Go.RowKit Go.Maps Go.Shelf
theorem fP.aa4{w:World}{bv bm bo n g cap:Nat}{G:Lg}{m:Lm}{A:List (Value × List Value)}{a:Value × List Value}{Ld:List dS}(h:bu w bv bm bo G m)(hA:m.ac=A++[a])(hn:A.length=n)(hav:m.av=.slice (some ⟨g,0,none⟩) (n+1) cap)(hnt:∀a,A.getLast?=some a->a.2.length=Ld.length) :
 bu ((w.setCell ⟨g,n,none⟩ (.slice none 0 0)).setCell ⟨bv,5,none⟩ (.slice (some ⟨g,0,none⟩) n cap)) bv bm bo { G with na:=n,nt:=Ld,ud:=G.ud+1 } { m with av:=.slice (some ⟨g,0,none⟩) n cap,ac:=A } /\
  au (fun b=>b=bv\/m.av.ownBlock=some b) w ((w.setCell ⟨g,n,none⟩ (.slice none 0 0)).setCell ⟨bv,5,none⟩ (.slice (some ⟨g,0,none⟩) n cap)) /\
  (∀b,Lm.F { m with av:=.slice (some ⟨g,0,none⟩) n cap,ac:=A } b->m.F b):=by
 have hob:m.av.ownBlock=some g:=by rw[hav];rfl
 have k:au (fun b=>b=bv\/m.av.ownBlock=some b) w ((w.setCell ⟨g,n,none⟩ (.slice none 0 0)).setCell ⟨bv,5,none⟩ (.slice (some ⟨g,0,none⟩) n cap)) :=
  ((au.refl (fun b=>b=bv\/m.av.ownBlock=some b) w).setCell (p:=⟨g,n,none⟩) (.inl (.inr hob)) _).setCell (p:=⟨bv,5,none⟩) (.inl (.inl rfl)) _
 have ht:=h.aO.act.row
 have hal:m.ac.length=n+1:=by rw[hA,List.length_append,hn];rfl
 have hna:G.na=n+1:=by rw[<-h.aO.act.len];exact hal
 rw[hav,hal]at ht
 obtain⟨hl0,h0⟩:=ht
 obtain⟨cur,hb,h1,h2,h3,h4⟩:∃cur,az w g cur 109/\n+1<=cap/\cap<=maxLen/\cur.size=cap * 1/\cur.toList.take ((n+1) * 1)=m.ac.map Prod.fst:=by
  rcases h0 with⟨e,_⟩|⟨g',cap',cur,e,_,hb,h1,h2,h3,h4⟩
  ·simp at e
  ·simp only[Value.slice.injEq,Option.some.injEq,Addr.mk.injEq]at e
   obtain⟨⟨e1,_⟩,_,e2⟩:=e
   subst e1 e2
   exact⟨cur,hb,h1,h2,h3,h4⟩
 have hne:g≠bv:=az.ne hb h.dA (by decide)
 have no:∀{b c t},az w b c t->t≠100->t≠109->¬(b=bv\/m.av.ownBlock=some b):=by
  rintro b c t hc e1 e2 (e|e)
  ·exact az.ne hc h.dA e1 e
  ·rw[hob]at e;obtain rfl:=Option.some.inj e;exact az.ne hc hb e2 rfl
 refine⟨⟨((h.dA.other (fun e=>hne e.symm) _).set 5 _),?_⟩,k,?_⟩
 ·refine⟨aG h.aO.jq k (fun b e=>?_),aG h.aO.iF k (fun b e=>?_),h.aO.len,fun i b y hi hy=>?_,h.aO.nodup,⟨?_,fun x hx=>aG (h.aO.act.own x (by rw[hA];exact List.mem_append_left _ hx)) k (fun b e=>?_),?_,hn,hnt⟩,aG h.aO.kH k (fun b e=>?_),?_⟩
  ·obtain⟨cs,hc⟩:=bF h.aO.jq e;exact no hc (by decide) (by decide)
  ·obtain⟨cs,hc⟩:=bF h.aO.iF e;exact no hc (by decide) (by decide)
  ·have hc:=h.aO.aB i b y hi hy
   exact k.aB hc (no hc (by decide) (by decide))
  ·refine⟨by simp,.inr ⟨g,cap,cur.setIfInBounds n (.slice none 0 0),?_,Nat.zero_le _,(hb.set n _).other hne _,by simp only[hn];omega,h2,by simpa using h3,?_⟩⟩
   ·simp only[hn]
   ·simp only[hn,Nat.mul_one]at h4 ⊢
    have e:(cur.setIfInBounds n (.slice none 0 0)).toList=cur.toList.set n (.slice none 0 0):=by simp
    have hm:A.map Prod.fst=(m.ac.map Prod.fst).dropLast:=by rw[hA];simp
    rw[e,List.take_set,hm,<-h4]
    have hcl:cur.toList.length=cap:=by simpa using h3
    rw[List.set_eq_of_length_le (by simp;exact Nat.min_le_left _ _),List.dropLast_eq_take,List.take_take,List.length_take,hcl,show min (min (n+1) cap-1) (n+1)=n by omega]
  ·obtain⟨cs,hc⟩:=bF (h.aO.act.own x (by rw[hA];exact List.mem_append_left _ hx)) e;exact no hc (by decide) (by decide)
  ·have:=h.aO.act.dis
   rw[hA,List.filterMap_append]at this
   exact (List.nodup_append.1 this).1
  ·obtain⟨cs,hc⟩:=bF h.aO.kH e;exact no hc (by decide) (by decide)
  ·have:=h.aO.jb
   show m.jn.length<=300 * (G.ud+1+n)
   rw[hna]at this
   omega
 ·rintro b (e|e|e|e|⟨x,hx,e⟩)
  ·exact .inl e
  ·exact .inr (.inl e)
  ·exact .inr (.inr (.inl e))
  ·exact .inr (.inr (.inr (.inl (by rw[hob];exact e))))
  ·exact .inr (.inr (.inr (.inr ⟨x,by rw[hA];exact List.mem_append_left _ hx,e⟩)))
theorem Bq(Ts:List (List (Int × Tr))):∀k,k<=Ts.length->rP (fun i=>Ts.getD i []) Ts.length k=(Ts.drop (Ts.length-k)).reverse.flatten
 | 0,_=>by simp[rP]
 | k+1,hk=>by
   have ih:=Bq Ts k (by omega)
   show rP _ _ k++Ts.getD (Ts.length-1-k) []=_
   rw[ih]
   have e1:Ts.length-(k+1)=Ts.length-1-k:=by omega
   have hlt:Ts.length-1-k<Ts.length:=by omega
   rw[e1,List.drop_eq_getElem_cons hlt,List.reverse_cons,List.flatten_append,show Ts.length-1-k+1=Ts.length-k by omega]
   congr 1
   rw[List.getD_eq_getElem?_getD,List.getElem?_eq_getElem hlt]
   simp
theorem FW:∀{Ts:List (List (Int × Tr))},(∀T∈Ts,T.length<=1)->Ts.reverse.flatten=Ts.flatten.reverse
 | [],_=>rfl
 | T :: Ts,h=>by
   rw[List.reverse_cons,List.flatten_append,FW (fun x hx=>h x (by simp[hx])),show ([T]:List (List (Int × Tr))).flatten=T by simp,List.flatten_cons,List.reverse_append]
   congr 1
   have h1:=h T (by simp)
   match T,h1 with
   | [],_=>rfl
   | [x],_=>rfl
   | x :: y :: T,h1=>simp at h1
def Tn(bv bm bo:Nat)(V V0:aQ)(B:List (Int × Tr))(cls:List (List Value))(Ld:List dS)(w w':World):Prop :=
 ∃V',dN w' bv bm bo V'/\HS V'/\dK V0 V'/\V'.lg.tp=(V.lg.lT B.reverse).tp/\V'.lg.na+1=V.lg.na/\V'.lg.ud=V.lg.ud+2/\V'.lg.nt=Ld/\V'.lm.ac.map Prod.snd=cls/\au (dI bv bm bo V) w w'/\∀x,dI bv bm bo V' x->dI bv bm bo V x\/w.heap.size<=x
theorem dN.aaI{w w':World}{bv bm bo:Nat}{V:aQ}{jv:Value}{jn:List Value}(R:dN w bv bm bo V)(hL:fP w' bv bm bo V.lg { V.lm with jv:=jv,jn:=jn } (V.lg.ud+V.lg.na+1))(hF:∀b,jv.ownBlock=some b->V.lm.jv.ownBlock=some b\/w.heap.size<=b)(k:au (fun b=>b=bv\/V.lm.jv.ownBlock=some b) w w') :
 dN w' bv bm bo { V with lg:={ V.lg with ud:=V.lg.ud+1 },lm:={ V.lm with jv:=jv,jn:=jn } }/\au (dI bv bm bo V) w w'/\∀x,dI bv bm bo { V with lg:={ V.lg with ud:=V.lg.ud+1 },lm:={ V.lm with jv:=jv,jn:=jn } } x->dI bv bm bo V x\/w.heap.size<=x:=by
 have hl:bu w' bv bm bo { V.lg with ud:=V.lg.ud+1 } { V.lm with jv:=jv,jn:=jn }:=by
  have e:V.lg.ud+1+V.lg.na=V.lg.ud+V.lg.na+1:=by omega
  refine⟨hL.dA,hL.aO.jq,hL.aO.iF,hL.aO.len,hL.aO.aB,hL.aO.nodup,hL.aO.act,hL.aO.kH,?_⟩
  show jn.length<=300 * (V.lg.ud+1+V.lg.na)
  rw[e];exact hL.aO.jb
 refine⟨R.jH hl (k.mono (fun x h=>h.imp_right (fun h=>.inr (.inl (.inr h))))),k.mono (fun x h=>?_),fun x hx=>?_⟩
 ·rcases h with h|h
  ·exact .inl h
  ·exact .inr (.inr (.inr (.inr (.inr (.inr (.inl (.inr h)))))))
 ·rcases hx with h|h|h|h|h|h
  ·exact .inl (.inl h)
  ·exact .inl (.inr (.inl h))
  ·exact .inl (.inr (.inr (.inl h)))
  ·exact .inl (.inr (.inr (.inr (.inl h))))
  ·exact .inl (.inr (.inr (.inr (.inr (.inl h)))))
  ·rcases h with h|(h|h)|h|h
   ·exact .inl (.inr (.inr (.inr (.inr (.inr (.inl h))))))
   ·exact .inl (.inr (.inr (.inr (.inr (.inr (.inr (.inl (.inl h))))))))
   ·exact (hF x h).imp_left (fun h=>.inr (.inr (.inr (.inr (.inr (.inr (.inl (.inr h))))))))
   ·exact .inl (.inr (.inr (.inr (.inr (.inr (.inr (.inr (.inl h))))))))
   ·exact .inl (.inr (.inr (.inr (.inr (.inr (.inr (.inr (.inr h))))))))
theorem N8(bv bm bo:Nat)(V:aQ)(w:World)(R:dN w bv bm bo V)(h0:V.lg.na=0) :
 Calls Tryz.prog 23 #[.pointer (some ⟨bv,0,none⟩)] w fun e w'=>e=.returned (.int .i64 12)/\au aP w w':=by
 have hrow:=R.aO.aO.act.row
 rw[R.aO.aO.act.len,h0]at hrow
 obtain⟨pa,lX,hav⟩:=Ad hrow
 have v5:w.cell? ⟨bv,5,none⟩=some (.slice pa 0 lX):=(R.dA.cell 5).trans (by rw[<-hav];rfl)
 clear R hrow hav
 go_enter Tryz.func23,Tryz.ntmps23
 go_wp2
 go_ret
 exact⟨rfl,au.refl aP w⟩
theorem dN.KZ{w:World}{bv bm bo k:Nat}{V:aQ}{A:List (Value × List Value)}{a:Value × List Value}(R:dN w bv bm bo V)(hA:V.lm.ac=A++[a])(hk:A.length=k)(h0:0<a.2.length) :
 ∃g cap gf Jd cs,V.lm.av=.slice (some ⟨g,0,none⟩) (k+1) cap/\k+1<=cap/\(∃cur,az w g cur 109)/\w.cell? ⟨g,k,none⟩=some a.1/\a.1=.slice (some ⟨gf,0,none⟩) a.2.length Jd/\az w gf cs 1/\(∀j (hj:j<a.2.length),w.cell? ⟨gf,j,none⟩=some a.2[j]):=by
 have hrow:=R.aO.aO.act.row
 have hal:V.lm.ac.length=k+1:=by rw[hA,List.length_append,hk];rfl
 rw[hal]at hrow
 have hown:=R.aO.aO.act.own a (by rw[hA];simp)
 rcases hrow.2 with⟨_,e⟩|⟨g,cap,cur,hav,_,hg,h1,h2,h3,h4⟩
 ·omega
 rcases hown.2 with⟨_,e⟩|⟨gf,Jd,cs,MW,_,hgf,f1,f2,f3,f4⟩
 ·omega
 refine⟨g,cap,gf,Jd,cs,hav,h1,⟨cur,hg⟩,?_,MW,hgf,fun j hj=>?_⟩
 ·have hb:az w g cur 109:=hg
  rw[hb.cell k]
  have:(cur.toList.take ((k+1) * 1))[k]?=some a.1:=by
   rw[h4,hA,List.map_append]
   rw[List.getElem?_append_right (by rw[List.length_map];omega),List.length_map,hk,Nat.sub_self]
   rfl
  rw[List.getElem?_take_of_lt (by omega)]at this
  simpa using this
 ·have hb:az w gf cs 1:=hgf
  rw[hb.cell j]
  have:(cs.toList.take (a.2.length * 1))[j]?=some a.2[j]:=by rw[f4,List.getElem?_eq_getElem hj]
  rw[List.getElem?_take_of_lt (by omega)]at this
  simpa using this
theorem XH(V:aQ){G':Lg}{bH:Lm}(h1:G'.tr=V.lg.tr)(h2:G'.day=V.lg.day)(h3:bH.tb=V.lm.tb):dK V { V with lg:=G',lm:=bH } :=
 ⟨rfl,fun _ _=>rfl,fun _ _=>rfl,fun _ _=>rfl,fun _ _ _ _ _=>Iff.rfl,rfl,rfl,fun _ _=>rfl,h1,h2,h3⟩
theorem KA{k:Nat}(h:k<1000000000):wrap64 (k:Int)=(k:Int)/\IntKind.i64.wrap (k:Int)=(k:Int)/\IntKind.i64.wrap ((k:Int)+1)=(k:Int)+1:=by
 refine⟨?_,?_,?_⟩
 ·unfold wrap64;omega
 ·rw[IntKind.wrap_i64];omega
 ·rw[IntKind.wrap_i64];omega
theorem RP(bv bm bo:Nat)(V V0 V1:aQ)(n:lK)(l:List Nat)(A:List (Value × List Value))(a:Value × List Value)(Ld:List dS)(w:World)(R:dN w bv bm bo V)(hs:HS V)(hA:V.lm.ac=A++[a])(ha:a.2=n.cl)(fns:Oe bv bm bo V n w)(u:jm n.bk (KK l) n.ds n.Ts V0 V1)(hl:dK V1 V)(hll:l.length<1000)(hn0:0<n.ds.length)(hn:n.ds.length<=100000)
 (hnt:∀a,A.getLast?=some a->a.2.length=Ld.length) (htp:V.lg.tp.length+100000<1000000000) (hud:V.lg.ud+V.lg.na<3000000) :
 Calls Tryz.prog 23 #[.pointer (some ⟨bv,0,none⟩)] w fun e w'=>e=.returned (.int .i64 0)/\Tn bv bm bo V V0 n.Ts.flatten (A.map Prod.snd) Ld w w':=by
 obtain⟨k,hk⟩:∃k,A.length=k:=⟨_,rfl⟩
 have hna:V.lg.na=k+1:=by rw[<-R.aO.aO.act.len,hA,List.length_append,hk];rfl
 have ha0:0<a.2.length:=by rw[ha,fns.len];exact hn0
 obtain⟨m,hm⟩:∃m,m=k+1:=⟨_,rfl⟩
 obtain⟨g,cap,gf,Jd,cs,hav,-,-,-,ha1,-,-⟩:=R.KZ hA hk ha0
 have v5:w.cell? ⟨bv,5,none⟩=some (.slice (some ⟨g,0,none⟩) m cap):=(R.dA.cell 5).trans (by rw[hm,<-hav];rfl)
 have hkm:k<m:=by omega
 have hki:(m:Int)-1=(k:Int):=by omega
 obtain⟨hkw,abW,abX⟩:=KA (k:=k) (by omega)
 have hk0:¬((k:Int)<0):=by omega
 obtain⟨st,e0,e1,hst,hkk⟩:=u.XZ
 have eT:=u.len
 have HWr:=ai (Dy bv bm bo V.lg V.lm (V.lg.ud+V.lg.na) ⟨#[117,110,100,111]⟩ w R.aO hud (by decide) (by decide))
 have YL:Hid (∀w1 jv jn,fP w1 bv bm bo V.lg { V.lm with jv:=jv,jn:=jn } (V.lg.ud+V.lg.na+1)->(∀b,jv.ownBlock=some b->V.lm.jv.ownBlock=some b\/w.heap.size<=b)->au (fun b=>b=bv\/V.lm.jv.ownBlock=some b) w w1 ->
  w1.cell? ⟨bv,5,none⟩=some (.slice (some ⟨g,0,none⟩) m cap)/\w1.cell? ⟨g,k,none⟩=some (.slice (some ⟨gf,0,none⟩) n.ds.length Jd) /\
  Calls Tryz.prog 45 #[.slice (some ⟨gf,0,none⟩) n.ds.length Jd] w1 fun e w2=>e=.returned (.tuple #[])/\∃Vc,dN w2 bv bm bo Vc/\HS Vc/\dK V0 Vc/\Vc.lg.tp=(V.lg.lT n.Ts.flatten.reverse).tp/\Vc.lg.na=V.lg.na/\Vc.lg.ud=V.lg.ud+1/\Vc.lm.ac=A++[a]/\au (dI bv bm bo V) w w2/\∀x,dI bv bm bo Vc x->dI bv bm bo V x\/w.heap.size<=x):=by
  intro w1 jv jn hL1 hF1 k1
  obtain⟨R1,SB,f1⟩:=R.aaI hL1 hF1 k1
  obtain⟨g',cap',gf',abS,cs',aa9,_,_,cg,ca,hcs,hcell⟩:=R1.KZ (A:=A) (a:=a) hA hk ha0
  have eav:(V.lm.av:Value)=.slice (some ⟨g',0,none⟩) (k+1) cap':=aa9
  rw[hav]at eav
  simp only[Value.slice.injEq,Option.some.injEq,Addr.mk.injEq]at eav
  obtain⟨⟨e2,_⟩,_,e3⟩:=eav
  subst e2 e3
  rw[ha1]at ca
  simp only[Value.slice.injEq,Option.some.injEq,Addr.mk.injEq]at ca
  obtain⟨⟨e4,_⟩,_,e5⟩:=ca
  subst e4 e5
  have hcl:a.2.length=n.ds.length:=by rw[ha,fns.len]
  refine⟨(R1.dA.cell 5).trans (by show some V.lm.av=_;rw[hav,hm]),by rw[cg,ha1,hcl],?_⟩
  have Zn:=fns.aC SB f1
  have lk1:dK V { V with lg:={ V.lg with ud:=V.lg.ud+1 },lm:={ V.lm with jv:=jv,jn:=jn } }:=⟨rfl,fun _ _=>rfl,fun _ _=>rfl,fun _ _=>rfl,fun _ _ _ _ _=>Iff.rfl,rfl,rfl,fun _ _=>rfl,rfl,rfl,rfl⟩
  have gd:∀j (h:j<n.ds.length) (h2:j<n.cl.length),n.ds.getD j .closed=n.ds[j]/\n.cl.getD j (.tuple #[])=n.cl[j]:=fun j h h2=>by
   rw[List.getD_eq_getElem?_getD,List.getD_eq_getElem?_getD,List.getElem?_eq_getElem h,List.getElem?_eq_getElem h2]
   exact⟨rfl,rfl⟩
  have hl2:=fns.len
  refine (GR bv bm bo 0 n.ds.length gf Jd n.bk (fun i=>n.ds.getD i .closed) (fun i=>n.Ts.getD i []) st (fun i=>n.cl.getD i (.tuple #[])) l { V with lg:={ V.lg with ud:=V.lg.ud+1 },lm:={ V.lm with jv:=jv,jn:=jn } } w1 R1 hs (by rw[e1];exact hl.trans lk1) (fun j hj=>?_) (fun j hj=>?_) (fun j hj x hx=>?_) (fun j hj x hx=>(hkk j hj).1 x hx) hll (by omega) (by show V.lg.tp.length+_<_;omega) (fun j hj=>(hkk j hj).2) ⟨a,by show a∈V.lm.ac;rw[hA];simp,by rw[ha1];rfl⟩ hcs.lt (fun j hj=>?_)).mono ?_
  ·have h:=hst j hj (by omega)
   simp only[(gd j hj (by omega)).1]
   rw[List.getD_eq_getElem?_getD,List.getElem?_eq_getElem (show j<n.Ts.length by omega)]
   exact h
  ·simp only[(gd j hj (by omega)).1,(gd j hj (by omega)).2]
   exact Zn.mi j _ _ (List.getElem?_eq_getElem hj) (List.getElem?_eq_getElem (by omega))
  ·simp only[(gd j hj (by omega)).2]at hx
   exact Zn.off _ (List.getElem_mem (by omega)) x hx
  ·simp only[(gd j hj (by omega)).2]
   rw[hcell j (by omega)]
   simp only[ha]
  ·rintro e w2 ⟨rfl,Vc,R2,hs2,abp,MZ,gZ,Na,PV,FX,k2,f2⟩
   refine⟨rfl,Vc,R2,hs2,by rw[<-e0];exact abp,?_,gZ,Na,by rw[FX];exact hA,SB.from (k2.mono (fun x hx=>f1 x hx)),fun x hx=>?_⟩
   ·rw[MZ,<-eT,Bq n.Ts _ (Nat.le_refl _),Nat.sub_self,List.drop_zero,FW (fun T hT=>?_)]
    ·exact Ir (G:={ V.lg with ud:=V.lg.ud+1 }) (G':=V.lg) rfl _
    ·obtain⟨j,hj,rfl⟩:=List.mem_iff_getElem.1 hT
     exact (hst j (by omega) hj).one
   ·rcases f2 x hx with h|h
    ·exact f1 x h
    ·exact .inr (Nat.le_trans SB.size h)
 have lv:=R.dA.lt
 have V9:=ai hna
 have HKk:=ai hk
 have HRR:=ai R
 have hkb:k<3000000:=by omega
 clear hkk hst e0 e1 eT u hl hs fns R hav ha ha0 ha1 hna htp hud hll hn hm hk hn0
 go_enter Tryz.func23,Tryz.ntmps23
 go_wp2_with fail
 refine (ae HWr).mono ?_
 rintro e w1 ⟨rfl,jv,jn,hL1,hF1,k1⟩
 obtain⟨y5,yk,Zo⟩:=ae YL w1 jv jn hL1 hF1 k1
 have HP2:=ai Zo
 have HV1:=ai hL1.dA
 clear v5 hL1 hF1 k1 Zo HWr YL
 go_wp2_with fail
 refine (ae HP2).mono ?_
 rintro e w2 ⟨rfl,Vc,R2,hs2,hl2,MZ,gZ,Na,FX,k2,f2⟩
 have HR2:=ai R2
 have HS2:=ai hs2
 have HL2:=ai hl2
 have aaX:=ai MZ
 have abU:=ai gZ
 have aaZ:=ai Na
 have abT:=ai FX
 have yS:=ai k2
 have HF2:=ai f2
 have hrow:=R2.aO.aO.act.row
 have hal:Vc.lm.ac.length=k+1:=by rw[FX,List.length_append,ae HKk];rfl
 rw[hal]at hrow
 obtain⟨g2,cap2,aa3,MW,hb2,hc2,hz2⟩:∃g cap cur,Vc.lm.av=.slice (some ⟨g,0,none⟩) (k+1) cap/\az w2 g cur 109/\k+1<=cap/\cur.size=cap * 1:=by
  rcases hrow.2 with⟨_,e⟩|⟨g,cap,cur,e,_,hg,h1,h2,h3,_⟩
  ·omega
  ·exact⟨g,cap,cur,e,hg,h1,h3⟩
 have z5:w2.cell? ⟨bv,5,none⟩=some (.slice (some ⟨g2,0,none⟩) (k+1) cap2):=(R2.dA.cell 5).trans (by rw[<-MW];rfl)
 have hgb:¬g2=bv:=az.ne hb2 R2.dA (by decide)
 have hbg:¬bv=g2:=fun e=>hgb e.symm
 obtain⟨cv,cn⟩:∃cv,w2.cell? ⟨g2,k,none⟩=some cv:=⟨aa3[k]'(by omega),(hb2.cell k).trans (Array.getElem?_eq_getElem (by omega))⟩
 have fn:=hb2.frozen k
 have HD:=ai (FQ g2 k cap2 w2 _ (by omega) hc2 cn fn)
 have VX:=ai (fun (W:World) (kW:au aP w2 W)=>(R2.aO.aH kW).aa4 (Ld:=Ld) FX (ae HKk) MW hnt)
 have YS:=ai R2.dA
 have HAv:=ai MW
 have f5:=R2.dA.frozen 5
 have lv2:=R2.dA.lt
 clear R2 hs2 hl2 MZ gZ Na FX k2 f2 hrow hal MW hb2 hc2 hz2 y5 yk HP2
 go_wp2_with fail
 refine (ae HD).mono ?_
 rintro e w3 ⟨rfl,q2,hw3⟩
 have HW3:=ai hw3
 have c3:w3.cell? ⟨bv,5,none⟩=some (.slice (some ⟨g2,0,none⟩) (k+1) cap2):=by rw[hw3];exact (az.cell (((ae YS).drewN _).other hbg _) 5).trans (by rw[<-ae HAv];rfl)
 have f3:w3.frozen? ⟨bv,5,none⟩=false:=by rw[hw3];exact az.frozen (((ae YS).drewN _).other hbg _) 5
 clear hw3 cn fn z5 f5 HD
 go_wp2
 go_ret
 refine⟨rfl,?_⟩
 obtain⟨c1,c2,c4⟩:=ae VX _ ((au.refl aP w2).drewN q2)
 rw[<-ae HW3]at c1 c2
 have kq:au (fun b=>b=bv\/Vc.lm.av.ownBlock=some b) w2 (w3.setCell ⟨bv,5,none⟩ (.slice (some ⟨g2,0,none⟩) k cap2)):=((au.refl aP w2).drewN q2).bI.trans c2
 have kF:au (fun b=>b=bv\/Vc.lm.F b) w2 (w3.setCell ⟨bv,5,none⟩ (.slice (some ⟨g2,0,none⟩) k cap2)):=kq.mono (fun b hb=>hb.imp_right (fun h=>.inr (.inr (.inr (.inl h)))))
 have R3:=(ae HR2).jH c1 kF
 have kf:au (dI bv bm bo Vc) w2 (w3.setCell ⟨bv,5,none⟩ (.slice (some ⟨g2,0,none⟩) k cap2)):=kF.mono (fun b hb=>by
  rcases hb with h|h
  ·exact .inl h
  ·exact .inr (.inr (.inr (.inr (.inr h)))))
 refine⟨_,R3,ae HS2,(ae HL2).trans (XH _ rfl rfl rfl),ae aaX,by show k+1=V.lg.na;rw[ae V9],by show Vc.lg.ud+1=_;rw[ae aaZ],rfl,rfl,(ae yS).from (kf.mono (ae HF2)),fun x hx=>?_⟩
 have h:dI bv bm bo Vc x:=by
  rcases hx with h|h|h|h|h|h
  ·exact .inl h
  ·exact .inr (.inl h)
  ·exact .inr (.inr (.inl h))
  ·exact .inr (.inr (.inr (.inl h)))
  ·exact .inr (.inr (.inr (.inr (.inl h))))
  ·exact .inr (.inr (.inr (.inr (.inr (c4 x h)))))
 exact ae HF2 x h
end Go.Proofs.YtigaphnafnpfnaaGreatDoor
