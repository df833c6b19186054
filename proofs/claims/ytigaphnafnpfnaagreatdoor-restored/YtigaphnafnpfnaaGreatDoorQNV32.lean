import Derived.Test.YtigaphnafnpfnaaGreatDoorQNV27
set_option linter.unusedVariables false
set_option linter.unusedSimpArgs false
namespace Go.Proofs.YtigaphnafnpfnaaGreatDoor
open Go.RowKit Go.Maps Go.Shelf
inductive jO (bk:Nat->Nat) (K:aS->Prop):List dY->List (List (Int × Tr))->aS->aS->Prop
 | nil (V:aS) (h:K V):jO bk K [] [] V V
 | jD {ds:List dY} {Ts:List (List (Int × Tr))} {V0 V V1:aS} {d:dY} {T:List (Int × Tr)} (h:jO bk K ds Ts V0 V) (hb:Ej bk d T V V1) (hk:K V1):jO bk K (ds++[d]) (Ts++[T]) V0 V1
section
variable {bk : Nat -> Nat} {K : aS -> Prop} {ds ds' : List dY} {Ts Ts' : List (List (Int × Tr))} {V0 V V1 : aS} {d : dY} {T : List (Int × Tr)}
theorem jO.len(h:jO bk K ds Ts V0 V1):Ts.length=ds.length:=by
 induction h with
 | nil V h=>rfl
 | jD h hb hk ih=>simp[ih]
theorem jO.one(h0:K V)(hb:Ej bk d T V V1)(hk:K V1):jO bk K [d] [T] V V1:=jO.jD (jO.nil V h0) hb hk
theorem jO.append(h:jO bk K ds Ts V0 V)(h':jO bk K ds' Ts' V V1):jO bk K (ds++ds') (Ts++Ts') V0 V1:=by
 induction h' with
 | nil V h2=>simpa using h
 | jD h2 hb hk ih=>rw[<-List.append_assoc,<-List.append_assoc];exact jO.jD (ih h) hb hk
theorem jO.aaE(h:jO bk K ds Ts V0 V1):∃st:Nat->aS,st 0=V0/\st ds.length=V1/\(∀k (hk:k<ds.length) (hk':k<Ts.length),Ej bk ds[k] Ts[k] (st k) (st (k+1)))/\∀k,k<=ds.length->K (st k):=by
 induction h with
 | nil V h=>exact⟨fun _=>V,rfl,rfl,fun k hk=>by simp at hk,fun _ _=>h⟩
 | @jD ds Ts V0 V V1 d T h hb hk ih =>
   obtain⟨st,e0,e1,h1,h2⟩:=ih;have el:=h.len;refine⟨fun k=>if k<=ds.length then st k else V1,by simp[e0],by simp;omega,fun k hk hk'=>?_,fun k hkl=>?_⟩
   ·simp only[List.length_append,List.length_cons,List.length_nil]at hk;by_cases hlt:k<ds.length
    ·rw[List.getElem_append_left hlt,List.getElem_append_left (by omega)];simp only[show k<=ds.length by omega,show k+1<=ds.length by omega,if_true];exact h1 k hlt (by omega)
    ·obtain rfl:k=ds.length:=by omega
     simp only[Nat.le_refl,if_true,show ¬(ds.length+1<=ds.length) by omega,if_false,e1];rw[List.getElem_append_right (Nat.le_refl _),List.getElem_append_right (by omega)]
     simpa [el] using hb
   ·by_cases hle:k<=ds.length
    ·simp only[hle,if_true];exact h2 k hle
    ·simp only[hle,if_false];exact hk
end
section
variable {bk : Nat -> Nat} {V V1 : aS}
theorem mQ{b:Nat}{o':Ord}(hb:VL V b)(hid:o'.id=(V.om b).id)(hpl:o'.place=(V.om b).place)(hr:∀i,i<V.nb->∀s,s<2->Mem ((V.B i).n s) ((V.B i).h s) b->o'.side=(V.om b).side/\o'.af=(V.om b).af)(hV:dQ { V with om:=aQ V.om b o' } V1):Ej bk (.gp b (V.om b)) [] V V1:=by
 have hvl:VL V1 b:=(hV.vl b).2 hb;have eo:V1.om b=o':=by rw[hV.om b hb];exact ai _ _ _
 refine⟨rfl,hvl,by rw[eo];exact hid.symm,fun i hi s h2 hm=>?_,?_⟩
 ·have:=hr i (by rw[<-hV.nb];exact hi) s h2 ((hV.mem i (by rw[<-hV.nb];exact hi) s h2 b).1 hm);rw[eo];exact⟨this.1.symm,this.2.symm⟩
 ·refine⟨hV.nb,hV.bk,hV.sym,hV.vz,hV.mem,hV.aW,hV.no,fun x hx=>?_,hV.tr,hV.day,hV.tb⟩;by_cases e:x=b
  ·subst e;simp only[ai,eo,hpl]
  ·simp only[ah _ _ e];rw[hV.om x hx];exact ah _ _ e
theorem tV{b i s:Nat}(hi:i<V.nb)(h2:s<2)(hbk:bk b=V.bk i)(hb:VL V b)(hside:(V.om b).side=(s:Int))(hm:Mem ((V.B i).n s) ((V.B i).h s) b)(hout:∀j,j<V.nb->∀t,t<2->Mem ((V.B j).n t) ((V.B j).h t) b->j=i/\t=s)
 (hd:Y6 i s (fun x=>Mem ((V.B i).n s) ((V.B i).h s) x/\x≠b) (V.B i).places V V1) (jK:∀x,VL V x->V1.om x=V.om x):Ej bk (.left b) [] V V1:=by
 have e:=hd.nb;have vl:∀x,VL V1 x↔VL V x:=fun x=>by unfold VL;rw[hd.aW]
 refine⟨rfl,i,s,by omega,h2,by rw[hd.bk i hi];exact hbk,(vl b).2 hb,by rw[jK b hb];exact hside,fun j hj t ht hmm=>?_,⟨e.symm,fun j hj=>(hd.bk j (by omega)).symm,fun j hj=>(hd.sym j (by omega)).symm,fun j hj=>?_,fun j hj t ht x=>?_,hd.aW.symm,hd.no.symm,hd.tr.symm,hd.day.symm,hd.tb.symm⟩,fun x hx=>(jK x ((vl x).1 hx)).symm⟩
 ·rw[hd.mem j (by omega) t ht b]at hmm;by_cases c:j=i/\t=s
  ·rw[if_pos c]at hmm;exact hmm.2 rfl
  ·rw[if_neg c]at hmm;exact c (hout j (by omega) t ht hmm)
 ·have h:=hd.vz j (by omega);by_cases c:j=i
  ·subst c;simp only[if_true]at h ⊢;exact h.symm
  ·rw[if_neg c]at h ⊢;exact h.symm
 ·have h:=hd.mem j (by omega) t ht x;by_cases c:j=i/\t=s
  ·obtain⟨rfl,rfl⟩:=c;simp only[and_self,if_true]at h ⊢;rw[h];constructor
   ·intro hx;by_cases c:x=b
    ·exact .inr c
    ·exact .inl ⟨hx,c⟩
   ·rintro (⟨hx,_⟩ | rfl)
    ·exact hx
    ·exact hm
  ·rw[if_neg c]at h ⊢;exact h.symm
theorem IB{b i s:Nat}{pl:Int}(hi:i<V.nb)(h2:s<2)(hbk:bk b=V.bk i)(hb:VL V b)(hout:FD V b)(hpl:(V.B i).places=wrap64 (pl-1))
 (hd:Y6 i s (fun x=>Mem ((V.B i).n s) ((V.B i).h s) x\/x=b) pl V V1) {q:Int} (jK:∀x,VL V x->V1.om x=aQ V.om b { V.om b with place:=q } x):Ej bk (.fC b (V.om b).place) [] V V1:=by
 have e:=hd.nb;have vl:∀x,VL V1 x↔VL V x:=fun x=>by unfold VL;rw[hd.aW]
 have hpi:=hd.vz i hi;simp only[if_true]at hpi;refine⟨rfl,i,s,by omega,h2,by rw[hd.bk i hi];exact hbk,(vl b).2 hb,by rw[hd.mem i hi s h2 b];simp,⟨e.symm,fun j hj=>(hd.bk j (by omega)).symm,fun j hj=>(hd.sym j (by omega)).symm,fun j hj=>?_,fun j hj t ht x=>?_,hd.aW.symm,hd.no.symm,hd.tr.symm,hd.day.symm,hd.tb.symm⟩,fun x hx=>?_⟩
 ·have h:=hd.vz j (by omega);by_cases c:j=i
  ·subst c;simp only[if_true];rw[hpi];exact hpl
  ·rw[if_neg c]at h ⊢;exact h.symm
 ·have h:=hd.mem j (by omega) t ht x;by_cases c:j=i/\t=s
  ·obtain⟨rfl,rfl⟩:=c;simp only[and_self,if_true]at h ⊢;rw[h];constructor
   ·intro hx;exact⟨.inl hx,fun c=>hout j hi t h2 (c▸hx)⟩
   ·rintro⟨hx | hx,c⟩
    ·exact hx
    ·exact absurd hx c
  ·rw[if_neg c]at h ⊢;exact h.symm
 ·have hx':=(vl x).1 hx;have hbm:=jK b hb;rw[ai]at hbm;by_cases c:x=b
  ·subst c;rw[ai,hbm]
  ·rw[ah _ _ c,jK x hx',ah _ _ c]
end
section
variable {bk : Nat -> Nat} {V V1 : aS}
theorem LZ{t:Tr}{b:Nat}{m1:Lm}(hnum:t.num=(V.lg.tr.length:Int)+1)(hm:m1.tb=V.lm.tb++[b])(hV:dQ { V with lg:={ V.lg with tr:=V.lg.tr++[⟨t,true⟩] },lm:=m1 } V1):Ej bk (.iZ t) [(2,t)] V V1 :=
 ⟨rfl,V.lg.tr,⟨t,true⟩,hV.tr,hnum,hV.nb,hV.bk,hV.sym,hV.vz,hV.mem,hV.aW,hV.no,hV.om,rfl,hV.day,by
  show V1.lm.tb.dropLast=V.lm.tb;rw[hV.tb];show m1.tb.dropLast=_;rw[hm];simp⟩
theorem LV{t:Tr}{k tb:Nat}(hx:V.lg.tr[k]?=some ⟨t,true⟩)(htb:V.lm.tb[k]?=some tb)(hV:dQ { V with lg:=V.lg.mP k t } V1):Ej bk (.jU tb) [(1,t)] V V1:=by
 have hlt:=(List.getElem?_eq_some_iff.1 hx).1;have e1:V1.lg.tr=V.lg.tr.set k ⟨t,false⟩:=hV.tr;refine⟨k,⟨t,false⟩,rfl,by rw[e1,List.getElem?_set_self hlt],by rw[hV.tb];exact htb,hV.nb,hV.bk,hV.sym,hV.vz,hV.mem,hV.aW,hV.no,hV.om,?_,hV.day,hV.tb⟩;show V1.lg.tr.set k ⟨t,true⟩=V.lg.tr;rw[e1,List.set_set];obtain⟨_,e⟩:=List.getElem?_eq_some_iff.1 hx;rw[<-e];exact List.set_getElem_self hlt
theorem LY{x:Tg}{p:Int}{k tb:Nat}(hx:V.lg.tr[k]?=some x)(htb:V.lm.tb[k]?=some tb)(hV:dQ { V with lg:=V.lg.jB k x p } V1):Ej bk (.iW tb x.t.af) [(3,x.t)] V V1:=by
 have hlt:=(List.getElem?_eq_some_iff.1 hx).1;have e1:V1.lg.tr=V.lg.tr.set k ⟨x.t.at p,x.holds⟩:=hV.tr;refine⟨k,⟨x.t.at p,x.holds⟩,rfl,by rw[e1,List.getElem?_set_self hlt],by rw[hV.tb];exact htb,hV.nb,hV.bk,hV.sym,hV.vz,hV.mem,hV.aW,hV.no,hV.om,?_,hV.day,hV.tb⟩;show V1.lg.tr.set k ⟨(x.t.at p).at x.t.af,x.holds⟩=V.lg.tr;rw[e1,List.set_set];obtain⟨_,e⟩:=List.getElem?_eq_some_iff.1 hx;have:(⟨(x.t.at p).at x.t.af,x.holds⟩:Tg)=V.lg.tr[k]:=by rw[e];rfl
 rw[this];exact List.set_getElem_self hlt
theorem LW{dd:Int}(hw:wrap64 (dd-1)=V.lg.day)(hV:dQ { V with lg:={ V.lg with day:=dd } } V1):Ej bk .closed [] V V1 :=
 ⟨rfl,hV.nb,hV.bk,hV.sym,hV.vz,hV.mem,hV.aW,hV.no,hV.om,hV.tr,by show wrap64 (V1.lg.day-1)=V.lg.day;rw[hV.day];exact hw,hV.tb⟩
theorem LX{s:ByteArray}{b:Nat}(hs:s.size<=maxLen)(hV:dQ (V.list s b) V1):Ej bk (.di s) [] V V1:=by
 have e:V1.nb=V.nb+1:=hV.nb;have lt:∀{i},i<V.nb->i<(V.list s b).nb:=fun h=>Nat.lt_succ_of_lt h
 have ne:∀{i},i<V.nb->i≠V.nb:=fun h=>by omega
 refine⟨rfl,V.nb,e,?_,hs,by show V1.nb-1=V.nb;omega,fun i hi=>?_,fun i hi=>?_,fun i hi=>?_,fun i hi s' h2 x=>?_,hV.aW,hV.no,hV.om,hV.tr,hV.day,hV.tb⟩
 ·rw[hV.sym V.nb (Nat.lt_succ_self _)];simp only[aS.list,ai]
  rfl
 ·exact (hV.bk i (lt hi)).trans (ah _ _ (ne hi))
 ·refine (hV.sym i (lt hi)).trans ?_;simp only[aS.list,ah _ _ (ne hi)]
 ·refine (hV.vz i (lt hi)).trans ?_;simp only[aS.list,ah _ _ (ne hi)]
 ·refine (hV.mem i (lt hi) s' h2 x).trans ?_;simp only[aS.list,ah _ _ (ne hi)]
theorem IA{id:Int}{b:Nat}{o:Ord}(hid:(Lit.int .i64 id).wf=true)(hfree:V.aW id=none)(hnew:¬VL V b)(hout:FD V b)(hV:dQ { V with aW:=fun i=>if i=id then some b else V.aW i,no:=V.no+1,om:=aQ V.om b o } V1):Ej bk (.entered id) [] V V1:=by
 have eo:V1.aW=fun i=>if i=id then some b else V.aW i:=hV.aW
 have en:V1.no=V.no+1:=hV.no;refine⟨rfl,b,by rw[eo];simp,hid,by omega,fun j hj t ht hm=>hout j (by have:=hV.nb;simp only at this;omega) t ht ((hV.mem j (by have:=hV.nb;omega) t ht b).1 hm),hV.nb,hV.bk,hV.sym,hV.vz,hV.mem,?_,by show V1.no-1=V.no;omega,fun x hx=>?_,hV.tr,hV.day,hV.tb⟩
 ·show (fun i=>if i=id then none else V1.aW i)=V.aW;funext i;rw[eo];by_cases e:i=id
  ·subst e;simp[hfree]
  ·simp[e]
 ·have hne:x≠b:=fun e=>hnew (e▸hx)
  obtain⟨j,hj⟩:=hx;have hji:j≠id:=fun e=>by rw[e,hfree]at hj;simp at hj
  refine (hV.om x ⟨j,by simp only[if_neg hji];exact hj⟩).trans ?_;exact ah _ _ hne
end
theorem uJ{V:aS}{i s k:Nat}{dK:Nat->Ord}(hs:HS V)(hi:i<V.nb)(h2:s<2)(hk:k<(V.B i).n s):Y6 i s (fun x=>Mem ((V.B i).n s) ((V.B i).h s) x/\x≠(V.B i).h s k) (V.B i).places V { V with B:=aQ V.B i ((V.B i).leave dK s k) }:=by
 refine⟨rfl,fun _ _=>rfl,fun j hj=>?_,fun j hj=>?_,fun j hj t ht x=>?_,rfl,rfl,rfl,rfl,rfl⟩
 ·by_cases e:j=i
  ·subst e;simp only[ai];rfl
  ·simp only[ah _ _ e]
 ·by_cases e:j=i
  ·subst e;simp only[ai,if_true];rfl
  ·simp only[ah _ _ e,if_neg e]
 ·by_cases e:j=i
  ·subst e;by_cases e2:t=s
   ·subst e2;simp only[ai,Bk.leave,and_self,if_true];obtain⟨n,hn⟩:∃n,(V.B j).n t=n+1:=⟨(V.B j).n t-1,by omega⟩;have hinj:=(hs j hi t ht).2.1;rw[hn]at hinj hk ⊢;simp only[Nat.add_sub_cancel];exact jY _ k (by omega) (hinj.qp (by omega)) x
   ·simp only[ai,Bk.leave,ah _ _ e2,e2,and_false,if_false]
  ·simp only[ah _ _ e,e,false_and,if_false]
theorem GW.one{V:aS}{M:Int}(g:GW V M){i j s t x:Nat}(hi:i<V.nb)(hj:j<V.nb)(h2:s<2)(ht:t<2)(h:Mem ((V.B i).n s) ((V.B i).h s) x)(h':Mem ((V.B j).n t) ((V.B j).h t) x):j=i/\t=s:=by
 obtain⟨_,a1,a2,_⟩:=((g.gb i hi).mem s h2 x).1 h;obtain⟨_,b1,b2,_⟩:=((g.gb j hj).mem t ht x).1 h';refine⟨g.lW j i hj hi (b1.symm.trans a1),?_⟩;rw[a2]at b2;exact (Int.ofNat_inj.1 b2).symm
def KK(l:List Nat)(V:aS):Prop:=(∀x,VL V x->x∈l)/\V.lg.tr.length<1000000000
section
variable {bk : Nat -> Nat} {V V' : aS} {M : Int} {l : List Nat}
theorem Oe(g:GW V M)(hK:KK l V){i s k:Nat}(hi:i<V.nb)(h2:s<2)(hk:k<(V.B i).n s)(hbk:bk ((V.B i).h s k)=V.bk i)(hvl:VL V ((V.B i).h s k))
 (hV:dQ { V with B:=aQ V.B i ((V.B i).leave V.om s k),om:=aQ V.om ((V.B i).h s k) (gz (V.om ((V.B i).h s k))) } V'):jO bk (KK l) [.left ((V.B i).h s k),.gp ((V.B i).h s k) (V.om ((V.B i).h s k))] [[],[]] V V':=by
 have hKa:KK l { V with B:=aQ V.B i ((V.B i).leave V.om s k) }:=hK;have hK':KK l V':=⟨fun x hx=>hK.1 x ((hV.vl x).1 hx),by rw[hV.tr];exact hK.2⟩;refine jO.jD (jO.one hK (tV hi h2 hbk hvl ((g.gb i hi).side h2 hk) ⟨k,hk,rfl⟩ (fun j hj t ht h=>g.one hi hj h2 ht ⟨k,hk,rfl⟩ h) (uJ g.hs hi h2 hk) (fun _ _=>rfl)) hKa) ?_ hK';exact mQ (V:={ V with B:=aQ V.B i ((V.B i).leave V.om s k) }) (o':=gz (V.om ((V.B i).h s k))) hvl rfl rfl (fun _ _ _ _ _=>⟨rfl,rfl⟩) hV
theorem VP(hK:KK l V){b:Nat}{af aK:Int}(hb:VL V b)(hpr:af=(V.om b).af)(hV:dQ { V with om:=aQ V.om b (dV (V.om b) af aK) } V'):jO bk (KK l) [.gp b (V.om b)] [[]] V V' :=
 jO.one hK (mQ (o':=dV (V.om b) af aK) hb rfl rfl (fun _ _ _ _ _=>⟨rfl,hpr⟩) hV) ⟨fun x hx=>hK.1 x ((hV.vl x).1 hx),by rw[hV.tr];exact hK.2⟩
theorem VQ(hK:KK l V){s:ByteArray}{b:Nat}(hs:s.size<=maxLen)(hV:dQ (V.list s b) V'):jO bk (KK l) [.di s] [[]] V V' :=
 jO.one hK (LX hs hV) ⟨fun x hx=>hK.1 x ((hV.vl x).1 hx),by rw[hV.tr];exact hK.2⟩
theorem La(hK:KK l V){x:Tg}{p:Int}{k tb:Nat}(hx:V.lg.tr[k]?=some x)(htb:V.lm.tb[k]?=some tb)(hV:dQ { V with lg:=V.lg.jB k x p } V'):jO bk (KK l) [.iW tb x.t.af] [[(3,x.t)]] V V' :=
 jO.one hK (LY hx htb hV) ⟨fun y hy=>hK.1 y ((hV.vl y).1 hy),by rw[hV.tr];simpa [Lg.jB] using hK.2⟩
end
def MV(V:aS)(i:Nat)(dW:List Nat)(st:MS):aS:={ V with B:=aQ V.B i st.B,om:=st.om,lg:=st.lg,lm:={ V.lm with tb:=dW } }
def Po(oc s:Nat)(st:MS):List dY :=
 if (st.om (st.B.h s 0)).aG=(st.om oc).aG then [.left (st.B.h s 0),.gp (st.B.h s 0) (st.om (st.B.h s 0))]
 else [.gp oc (st.om oc),.gp (st.B.h s 0) (st.om (st.B.h s 0))]++(if (aV st.om oc (st.B.h s 0) (st.B.h s 0)).aO=0 then [.left (st.B.h s 0)] else [])++[.iZ ((dn st.lg st.om oc (st.B.h s 0)).iP (iY st.B st.om oc (st.B.h s 0)))]
theorem KR(oc s:Nat)(st:MS):(bF oc s st).lg.nt=st.lg.nt++Po oc s st:=by
 unfold bF Po;split
 ·rfl
 ·unfold Lg.jT Lg.told Lg.aC Lg.aX dn;split <;> simp[Lg.aX]
section
variable {bk : Nat -> Nat} {V : aS} {l : List Nat} {i s oc : Nat} {st : MS} {dW : List Nat}
theorem Es{dK:Nat->Ord}{G':Lg}(hi:i<V.nb)(h2:s<2)(hn:0<st.B.n s)(hinj:ry (st.B.n s) (st.B.h s))(hbk:bk (st.B.h s 0)=V.bk i)(hvl:VL V (st.B.h s 0))(hside:(dK (st.B.h s 0)).side=(s:Int))
 (Qi:∀j,j<V.nb->∀t,t<2->Mem ((aQ V.B i st.B j).n t) ((aQ V.B i st.B j).h t) (st.B.h s 0)->j=i/\t=s):Ej bk (.left (st.B.h s 0)) [] (MV V i dW ⟨st.B,dK,G'⟩) (MV V i dW ⟨st.B.leave dK s 0,dK,G'⟩):=by
 have hB:(MV V i dW ⟨st.B,dK,G'⟩).B i=st.B:=ai _ _ _;refine tV (i:=i) (s:=s) hi h2 hbk hvl hside ?_ Qi ?_ (fun _ _=>rfl)
 ·rw[hB];exact⟨0,hn,rfl⟩
 ·rw[hB];refine⟨rfl,fun _ _=>rfl,fun j hj=>?_,fun j hj=>?_,fun j hj t ht x=>?_,rfl,rfl,rfl,rfl,rfl⟩
  ·by_cases e:j=i
   ·subst e;simp only[MV,ai];rfl
   ·simp only[MV,ah _ _ e]
  ·by_cases e:j=i
   ·subst e;simp only[MV,ai,if_true];rfl
   ·simp only[MV,ah _ _ e,if_neg e]
  ·by_cases e:j=i
   ·subst e;by_cases e2:t=s
    ·subst e2;simp only[MV,ai,Bk.leave,and_self,if_true];obtain⟨n,hn'⟩:∃n,st.B.n t=n+1:=⟨st.B.n t-1,by omega⟩;rw[hn']at hinj ⊢;simp only[Nat.add_sub_cancel];exact jY _ 0 (by omega) (hinj.qp (by omega)) x
    ·simp only[MV,ai,Bk.leave,ah _ _ e2,e2,and_false,if_false]
   ·simp only[MV,ah _ _ e,e,false_and,if_false]
theorem Fh(tb:Nat)(hi:i<V.nb)(h2:s<2)(hn:0<st.B.n s)(iv:sV oc s st)(hbk:bk (st.B.h s 0)=V.bk i)(hvl:VL V (st.B.h s 0))(Ru:VL V oc)(hl:∀x,VL V x->x∈l)(htr:st.lg.tr.length+1<1000000000)
 (Qi:∀j,j<V.nb->∀t,t<2->Mem ((aQ V.B i st.B j).n t) ((aQ V.B i st.B j).h t) (st.B.h s 0)->j=i/\t=s) :
 ∃Ts,jO bk (KK l) (Po oc s st) Ts (MV V i dW st) (MV V i (if (st.om (st.B.h s 0)).aG=(st.om oc).aG then dW else dW++[tb]) (bF oc s st)):=by
 have hne:st.B.h s 0≠oc:=(iv.mem 0 hn).2.2.2;have hsd:=(iv.mem 0 hn).1;have kk:∀adA B' dK G',G'.tr.length<1000000000->KK l (MV V i adA ⟨B',dK,G'⟩):=fun _ _ _ _ h=>⟨hl,h⟩
 unfold Po bF;by_cases hw:(st.om (st.B.h s 0)).aG=(st.om oc).aG
 ·simp only[hw,if_true];refine⟨[[],[]],jO.jD (jO.one (kk _ _ _ _ (by omega)) (Es (dK:=st.om) (G':=st.lg) hi h2 hn iv.inj hbk hvl hsd Qi) (kk _ _ _ _ (by omega))) ?_ (kk _ _ _ _ (by simp only[Lg.aX];omega))⟩;exact mQ (V:=MV V i dW ⟨st.B.leave st.om s 0,st.om,st.lg⟩) (o':=gz (st.om (st.B.h s 0))) hvl rfl rfl (fun _ _ _ _ _=>⟨rfl,rfl⟩) ⟨rfl,fun _ _=>rfl,fun _ _=>rfl,fun _ _=>rfl,fun _ _ _ _ _=>Iff.rfl,rfl,rfl,fun _ _=>rfl,rfl,rfl,rfl⟩
 ·simp only[hw,if_false];obtain⟨q,hq⟩:=kL (min (st.om oc).aO (st.om (st.B.h s 0)).aO);obtain⟨Ib,ho1⟩:=kL (aQ st.om oc (ja (st.om oc) q));have e1:Ib (st.B.h s 0)=st.om (st.B.h s 0):=by rw[ho1,ah _ _ hne]
  have ho2:aV st.om oc (st.B.h s 0)=aQ Ib (st.B.h s 0) (ja (st.om (st.B.h s 0)) q):=by rw[ho1,hq];rfl
  have u1:jO bk (KK l) [.gp oc (st.om oc)] [[]] (MV V i dW st) (MV V i dW ⟨st.B,Ib,st.lg⟩):=jO.one (kk _ _ _ _ (by omega)) (mQ (V:=MV V i dW st) (o':=ja (st.om oc) q) Ru rfl rfl (fun _ _ _ _ _=>⟨rfl,rfl⟩) (by rw[ho1];exact dQ.refl _)) (kk _ _ _ _ (by omega));have b2:Ej bk (.gp (st.B.h s 0) (st.om (st.B.h s 0))) [] (MV V i dW ⟨st.B,Ib,st.lg⟩) (MV V i dW ⟨st.B,aV st.om oc (st.B.h s 0),st.lg⟩):=by
   have:=mQ (bk:=bk) (V:=MV V i dW ⟨st.B,Ib,st.lg⟩) (V1:=MV V i dW ⟨st.B,aV st.om oc (st.B.h s 0),st.lg⟩) (b:=st.B.h s 0) (o':=ja (st.om (st.B.h s 0)) q) hvl (by show _=(Ib _).id;rw[e1];rfl) (by show _=(Ib _).place;rw[e1];rfl) (fun _ _ _ _ _=>by show _=(Ib _).side/\_=(Ib _).af;rw[e1];exact⟨rfl,rfl⟩) (by rw[ho2];exact dQ.refl _);have e:(MV V i dW ⟨st.B,Ib,st.lg⟩).om (st.B.h s 0)=st.om (st.B.h s 0):=e1;rw[e]at this;exact this
  have u2:=jO.jD u1 b2 (kk _ _ _ _ (by omega));have hsd2:(aV st.om oc (st.B.h s 0) (st.B.h s 0)).side=(s:Int):=by rw[ho2,ai];exact hsd
  have u3:∃Ts,jO bk (KK l) ([.gp oc (st.om oc),.gp (st.B.h s 0) (st.om (st.B.h s 0))]++(if (aV st.om oc (st.B.h s 0) (st.B.h s 0)).aO=0 then [.left (st.B.h s 0)] else [])) Ts (MV V i dW st) (MV V i dW ⟨dU st.B st.om oc (st.B.h s 0) s,aV st.om oc (st.B.h s 0),st.lg⟩):=by
   unfold dU;by_cases hz:(aV st.om oc (st.B.h s 0) (st.B.h s 0)).aO=0
   ·simp only[hz,if_true];exact⟨_,jO.jD u2 (Es (dK:=aV st.om oc (st.B.h s 0)) (G':=st.lg) hi h2 hn iv.inj hbk hvl hsd2 Qi) (kk _ _ _ _ (by omega))⟩
   ·simp only[hz,if_false,List.append_nil];exact⟨_,u2⟩
  obtain⟨Ts,u3⟩:=u3;have etr:(dn st.lg st.om oc (st.B.h s 0)).tr=st.lg.tr:=gW _ _ _ _;have edy:(dn st.lg st.om oc (st.B.h s 0)).day=st.lg.day:=rX _ _ _ _;refine⟨_,jO.jD u3 (LZ (b:=tb) (m1:={ V.lm with tb:=dW++[tb] }) ?_ rfl ?_) (kk _ _ _ _ ?_)⟩
  ·show ((dn st.lg st.om oc (st.B.h s 0)).tr.length:Int)+1=(st.lg.tr.length:Int)+1;rw[etr]
  ·refine⟨rfl,fun _ _=>rfl,fun _ _=>rfl,fun _ _=>rfl,fun _ _ _ _ _=>Iff.rfl,rfl,rfl,fun _ _=>rfl,?_,?_,rfl⟩
   ·show (dn st.lg st.om oc (st.B.h s 0)).tr++_=st.lg.tr++_;rw[etr]
   ·exact edy
  ·show ((dn st.lg st.om oc (st.B.h s 0)).tr++[_]).length<_;rw[etr]
   simpa using htr
end
theorem EK{B:Bk}{om:Nat->Ord}{s:Nat}(hinj:ry (B.n s) (B.h s))(hn:0<B.n s)(t x:Nat)(h:Mem ((B.leave om s 0).n t) ((B.leave om s 0).h t) x):Mem (B.n t) (B.h t) x:=by
 by_cases e:t=s
 ·subst e;obtain⟨k,hk,rfl⟩:=h;obtain⟨k',hk',e,_⟩:=oG hinj hn k hk;exact⟨k',hk',e⟩
 ·simp only[Bk.leave,ah _ _ e]at h;exact h
theorem EP{oc s:Nat}{st:MS}(hinj:ry (st.B.n s) (st.B.h s))(hn:0<st.B.n s)(t x:Nat)(h:Mem ((bF oc s st).B.n t) ((bF oc s st).B.h t) x):Mem (st.B.n t) (st.B.h t) x:=by
 unfold bF at h;split at h
 ·exact EK hinj hn t x h
 ·simp only[dU]at h;split at h
  ·exact EK hinj hn t x h
  ·exact h
theorem JB(oc s:Nat)(st:MS):(bF oc s st).lg.tr.length=st.lg.tr.length+(if (st.om (st.B.h s 0)).aG=(st.om oc).aG then 0 else 1):=by
 unfold bF;split
 ·rfl
 ·simp only[Lg.jT,Lg.told,Lg.aC,Lg.aX,gW,List.length_append,List.length_cons,List.length_nil]
theorem uQ(oc s:Nat):∀(f:Nat) (st:MS),st.lg.tr.length<=(aZ oc s f st).lg.tr.length
 | 0,st=>Nat.le_refl _
 | f+1,st=>by
   rw[aZ];split
   ·exact Nat.le_refl _
   ·have h1:=uQ oc s f (bF oc s st);have h2:=JB oc s st;omega
theorem goes{oc s:Nat}{st:MS}(h:stops oc s st=false):0<st.B.n s/\0<(st.om oc).aO:=by
 simp only[stops,Bool.or_eq_false_iff,Bool.not_eq_false',decide_eq_true_eq]at h;refine⟨?_,h.1⟩;cases hf:dJ st.B st.om (dm (st.om oc)) s with
 | none=>rw[hf]at h;simp at h
 | some b=>exact (uf hf).1
theorem zh{bk:Nat->Nat}{V:aS}{l:List Nat}{i s oc:Nat}(hi:i<V.nb)(h2:s<2)(Ru:VL V oc)(hl:∀x,VL V x->x∈l):∀(f:Nat) (st:MS) (dW ext:List Nat),sV oc s st->(aZ oc s f st).lg.tr.length+1<1000000000->(∀k,k<st.B.n s->bk (st.B.h s k)=V.bk i/\VL V (st.B.h s k)) ->
 (∀k,k<st.B.n s->∀j,j<V.nb->∀t,t<2->Mem ((aQ V.B i st.B j).n t) ((aQ V.B i st.B j).h t) (st.B.h s k)->j=i/\t=s)->ext.length+st.lg.tr.length=(aZ oc s f st).lg.tr.length ->
 ∃ds Ts,(aZ oc s f st).lg.nt=st.lg.nt++ds/\jO bk (KK l) ds Ts (MV V i dW st) (MV V i (dW++ext) (aZ oc s f st))
 | 0,st,dW,ext,iv,htr,hk,Qi,hx=>by
   have hx':ext.length+st.lg.tr.length=st.lg.tr.length:=hx;obtain rfl:ext=[]:=List.length_eq_zero_iff.1 (by omega);rw[List.append_nil];exact⟨[],[],by simp[aZ],jO.nil _ ⟨hl,by have h:st.lg.tr.length+1<1000000000:=htr;show st.lg.tr.length<_;omega⟩⟩
 | f+1,st,dW,ext,iv,htr,hk,Qi,hx=>by
   rw[aZ]at hx htr ⊢;by_cases hst:stops oc s st=true
   ·rw[if_pos hst]at hx htr ⊢;obtain rfl:ext=[]:=List.length_eq_zero_iff.1 (by omega);rw[List.append_nil];exact⟨[],[],by simp,jO.nil _ ⟨hl,by show st.lg.tr.length<_;omega⟩⟩
   ·rw[if_neg hst]at hx htr ⊢;have hst':stops oc s st=false:=by simpa using hst
    obtain⟨hn,hp⟩:=goes hst';have OJ:=(oV iv hn hp).1;have m1:=JB oc s st;have m2:=uQ oc s f (bF oc s st);have sub:=EP (oc:=oc) iv.inj hn;have el:∀k,k<(bF oc s st).B.n s->∃k',k'<st.B.n s/\(bF oc s st).B.h s k=st.B.h s k':=fun k hk=>sub s _ ⟨k,hk,rfl⟩
    have hk':∀k,k<(bF oc s st).B.n s->bk ((bF oc s st).B.h s k)=V.bk i/\VL V ((bF oc s st).B.h s k):=fun k hkk=>by
     obtain⟨k',hk1,e⟩:=el k hkk;rw[e];exact hk k' hk1
    have abP:∀k,k<(bF oc s st).B.n s->∀j,j<V.nb->∀t,t<2->Mem ((aQ V.B i (bF oc s st).B j).n t) ((aQ V.B i (bF oc s st).B j).h t) ((bF oc s st).B.h s k)->j=i/\t=s:=fun k hkk j hj t ht hm=>by
     obtain⟨k',hk1,e⟩:=el k hkk;refine Qi k' hk1 j hj t ht ?_;rw[e]at hm;by_cases ej:j=i
     ·subst ej;rw[ai]at hm ⊢;exact sub t _ hm
     ·rw[ah _ _ ej]at hm ⊢;exact hm
    by_cases hw:(st.om (st.B.h s 0)).aG=(st.om oc).aG
    ·rw[if_pos hw]at m1;obtain⟨Ts1,u1⟩:=Fh (dW:=dW) 0 hi h2 hn iv (hk 0 hn).1 (hk 0 hn).2 Ru hl (by omega) (Qi 0 hn);rw[if_pos hw]at u1;obtain⟨ds,Ts,en,u2⟩:=zh hi h2 Ru hl f (bF oc s st) dW ext OJ htr hk' abP (by omega);exact⟨_,_,by rw[en,KR,List.append_assoc],u1.append u2⟩
    ·rw[if_neg hw]at m1;obtain⟨tb,ext',rfl⟩:∃tb ext',ext=tb :: ext':=by
      cases ext with
      | nil=>simp at hx;omega
      | cons tb ext'=>exact⟨tb,ext',rfl⟩
     obtain⟨Ts1,u1⟩:=Fh (dW:=dW) tb hi h2 hn iv (hk 0 hn).1 (hk 0 hn).2 Ru hl (by omega) (Qi 0 hn);rw[if_neg hw]at u1;obtain⟨ds,Ts,en,u2⟩:=zh hi h2 Ru hl f (bF oc s st) (dW++[tb]) ext' OJ htr hk' abP (by simp at hx;omega);rw[List.append_assoc]at u2;exact⟨_,_,by rw[en,KR,List.append_assoc],u1.append u2⟩
theorem BP{oc s:Nat}:∀(f:Nat) (st:MS),sV oc s st->∀t x,Mem ((aZ oc s f st).B.n t) ((aZ oc s f st).B.h t) x->Mem (st.B.n t) (st.B.h t) x
 | 0,st,iv,t,x,h=>h
 | f+1,st,iv,t,x,h=>by
   rw[aZ]at h;by_cases hst:stops oc s st=true
   ·rw[if_pos hst]at h;exact h
   ·rw[if_neg hst]at h;obtain⟨hn,hp⟩:=goes (by simpa using hst);exact EP (oc:=oc) iv.inj hn t x (BP f (bF oc s st) (oV iv hn hp).1 t x h)
theorem Fp{p:Int}(h0:0<=p)(h1:p<=1000000000000):p=wrap64 (wrap64 (p+1)-1):=by
 unfold wrap64;omega
theorem Sl{bk:Nat->Nat}{V V1:aS}{i t oc g cap':Nat}{dW:List Nat}{st:MS}(hi:i<V.nb)(ht:t<2)(hbk:bk oc=V.bk i)(Ru:VL V oc)(hout:∀j,j<V.nb->∀u,u<2->¬Mem ((aQ V.B i st.B j).n u) ((aQ V.B i st.B j).h u) oc)(h0:0<=st.B.places)(h1:st.B.places<=1000000000000)
 (hV:dQ (MV V i dW ⟨eu oc t g cap' st,aH oc st,st.lg⟩) V1):Ej bk (if dB (st.om oc) then .fC oc (st.om oc).place else .gp oc (st.om oc)) [] (MV V i dW st) V1:=by
 have hBi:(MV V i dW st).B i=st.B:=ai _ _ _;unfold eu aH at hV;by_cases hw:dB (st.om oc)=true
 ·simp only[hw,if_true]at hV ⊢;refine IB (V:=MV V i dW st) (i:=i) (s:=t) (pl:=wrap64 (st.B.places+1)) hi ht hbk Ru hout (by rw[hBi];exact Fp h0 h1) ?_ (q:=wrap64 (st.B.places+1)) (fun x hx=>hV.om x hx);rw[hBi];refine⟨hV.nb,hV.bk,fun j hj=>(hV.sym j hj).trans ?_,fun j hj=>(hV.vz j hj).trans ?_,fun j hj u hu x=>(hV.mem j hj u hu x).trans ?_,hV.aW,hV.no,hV.tr,hV.day,hV.tb⟩
  ·by_cases e:j=i
   ·subst e;simp only[MV,ai];rfl
   ·simp only[MV,ah _ _ e]
  ·by_cases e:j=i
   ·subst e;simp only[MV,ai,if_true];rfl
   ·simp only[MV,ah _ _ e,if_neg e]
  ·by_cases e:j=i
   ·subst e;by_cases e2:u=t
    ·subst e2;simp only[MV,ai,Bk.rest,and_self,if_true];exact jh _ oc x
    ·simp only[MV,ai,Bk.rest,ah _ _ e2,e2,and_false,if_false]
   ·simp only[MV,ah _ _ e,e,false_and,if_false]
 ·simp only[hw]at hV ⊢;exact mQ (V:=MV V i dW st) (o':=gz (st.om oc)) Ru rfl rfl (fun _ _ _ _ _=>⟨rfl,rfl⟩) hV
theorem KZ{bk:Nat->Nat}{V V1:aS}{l:List Nat}{i s t oc g cap':Nat}{dW ext:List Nat}{st:MS}(hi:i<V.nb)(h2:s<2)(ht:t<2)(Ru:VL V oc)(hl:∀x,VL V x->x∈l)(iv:sV oc s st)(htr:(mF oc s st).lg.tr.length+1<1000000000)
 (hk:∀k,k<st.B.n s->bk (st.B.h s k)=V.bk i/\VL V (st.B.h s k)) (Qi:∀k,k<st.B.n s->∀j,j<V.nb->∀t,t<2->Mem ((aQ V.B i st.B j).n t) ((aQ V.B i st.B j).h t) (st.B.h s k)->j=i/\t=s) (hx:ext.length+st.lg.tr.length=(mF oc s st).lg.tr.length)
 (hbk:bk oc=V.bk i) (hout:∀j,j<V.nb->∀u,u<2->¬Mem ((aQ V.B i st.B j).n u) ((aQ V.B i st.B j).h u) oc) (h0:0<=st.B.places) (h1:st.B.places<=1000000000000)
 (hV:dQ (MV V i (dW++ext) ⟨eu oc t g cap' (mF oc s st),aH oc (mF oc s st),iC oc (mF oc s st)⟩) V1) :
 ∃ds Ts,(iC oc (mF oc s st)).nt=st.lg.nt++ds/\jO bk (KK l) ds Ts (MV V i dW st) V1:=by
 obtain⟨ds,Ts,en,u⟩:=zh (bk:=bk) hi h2 Ru hl (mu oc s st) st dW ext iv htr hk Qi hx;have epl:(mF oc s st).B.places=st.B.places:=qi _ _;refine⟨_,_,?_,jO.jD u (Sl (g:=g) (cap':=cap') hi ht hbk Ru (fun j hj v hv hm=>?_) (by have e:=epl;unfold mF at e;omega) (by have e:=epl;unfold mF at e;omega) ?_) ⟨fun x hx=>hl x ((hV.vl x).1 hx),?_⟩⟩
 ·show (mF oc s st).lg.nt++_=_;unfold mF;rw[en,List.append_assoc]
 ·refine hout j hj v hv ?_;by_cases e:j=i
  ·subst e;rw[ai]at hm ⊢;exact BP _ _ iv v oc hm
  ·rw[ah _ _ e]at hm ⊢;exact hm
 ·exact⟨hV.nb,hV.bk,hV.sym,hV.vz,hV.mem,hV.aW,hV.no,hV.om,hV.tr,hV.day,hV.tb⟩
 ·rw[hV.tr];show (mF oc s st).lg.tr.length<_;omega
def aS.zJ(V:aS)(id:Int)(b:Nat)(o:Ord):aS:={ V with aW:=fun i=>if i=id then some b else V.aW i,no:=V.no+1,om:=aQ V.om b o }
theorem Ld{α:Type}(f:Nat->α)(i:Nat):aQ f i (f i)=f:=by
 funext j;by_cases e:j=i
 ·subst e;rw[ai]
 ·rw[ah _ _ e]
theorem QZ{bk:Nat->Nat}{V V1:aS}{l:List Nat}{i s t b g cap':Nat}{id:Int}{o:Ord}{ext:List Nat}{G:Lg}(hi:i<V.nb)(h2:s<2)(ht:t<2)(hid:(Lit.int .i64 id).wf=true)(hfree:V.aW id=none)(hnew:¬VL V b)(hout:FD V b)
 (hl:∀x,VL (V.zJ id b o) x->x∈l) (ZI:G.tr=V.lg.tr) (hGd:G.day=V.lg.day) (iv:sV b s ⟨V.B i,aQ V.om b o,G⟩) (htr:(mF b s ⟨V.B i,aQ V.om b o,G⟩).lg.tr.length+1<1000000000)
 (hk:∀k,k<(V.B i).n s->bk ((V.B i).h s k)=V.bk i/\VL V ((V.B i).h s k)) (Qi:∀k,k<(V.B i).n s->∀j,j<V.nb->∀t,t<2->Mem ((V.B j).n t) ((V.B j).h t) ((V.B i).h s k)->j=i/\t=s) (hx:ext.length+V.lg.tr.length=(mF b s ⟨V.B i,aQ V.om b o,G⟩).lg.tr.length)
 (hbk:bk b=V.bk i) (h0:0<=(V.B i).places) (h1:(V.B i).places<=1000000000000)
 (hV:dQ (MV (V.zJ id b o) i (V.lm.tb++ext) ⟨eu b t g cap' (mF b s ⟨V.B i,aQ V.om b o,G⟩),aH b (mF b s ⟨V.B i,aQ V.om b o,G⟩),iC b (mF b s ⟨V.B i,aQ V.om b o,G⟩)⟩) V1) :
 ∃ds Ts,(iC b (mF b s ⟨V.B i,aQ V.om b o,G⟩)).nt=G.nt++ds/\jO bk (KK l) ([.entered id]++ds) ([[]]++Ts) V V1:=by
 have vp:∀x,VL V x->VL (V.zJ id b o) x:=fun x hx=>by
  obtain⟨j,hj⟩:=hx;have hne:j≠id:=fun e=>by rw[e,hfree]at hj;simp at hj
  exact⟨j,by show (if j=id then some b else V.aW j)=_;rw[if_neg hne];exact hj⟩
 have vo:VL (V.zJ id b o) b:=⟨id,by show (if id=id then some b else V.aW id)=_;rw[if_pos rfl]⟩;have hmo:=uQ b s (mu b s ⟨V.B i,aQ V.om b o,G⟩) ⟨V.B i,aQ V.om b o,G⟩;have hGl:G.tr.length+1<1000000000:=by
  have:G.tr.length<=(mF b s ⟨V.B i,aQ V.om b o,G⟩).lg.tr.length:=hmo;omega
 have ub:aQ (V.zJ id b o).B i (V.B i)=V.B:=Ld _ _;have u1:jO bk (KK l) [.entered id] [[]] V (MV (V.zJ id b o) i V.lm.tb ⟨V.B i,aQ V.om b o,G⟩):=by
  refine jO.one ⟨fun x hx=>hl x (vp x hx),by rw[<-ZI];omega⟩ (IA (o:=o) hid hfree hnew hout ⟨rfl,fun _ _=>rfl,fun j hj=>?_,fun j hj=>?_,fun j hj u hu x=>?_,rfl,rfl,fun _ _=>rfl,ZI,hGd,rfl⟩) ⟨hl,by show G.tr.length<_;omega⟩
  ·simp only[MV];rw[ub]
  ·simp only[MV];rw[ub]
  ·simp only[MV];rw[ub]
 obtain⟨ds,Ts,en,u2⟩:=KZ (bk:=bk) (V:=V.zJ id b o) (V1:=V1) (l:=l) (dW:=V.lm.tb) (ext:=ext) (st:=⟨V.B i,aQ V.om b o,G⟩) (g:=g) (cap':=cap') hi h2 ht vo hl iv htr (fun k hkk=>⟨(hk k hkk).1,vp _ (hk k hkk).2⟩) (fun k hkk j hj u hu hm=>Qi k hkk j hj u hu (by rw[ub]at hm;exact hm)) (by show ext.length+G.tr.length=_;rw[ZI];exact hx) hbk (fun j hj u hu hm=>hout j hj u hu (by rw[ub]at hm;exact hm)) h0 h1 hV;exact⟨ds,Ts,en,u1.append u2⟩
theorem VO{bk:Nat->Nat}{V V1:aS}{M:Int}{l:List Nat}{i s t k0 g cap':Nat}{af aK:Int}{ext:List Nat}{G:Lg}(gw:GW V M)(hi:i<V.nb)(h2:s<2)(ht:t<2)(hst:s≠t)(hk0:k0<(V.B i).n t)
 (hl:∀x,VL V x->x∈l) (ZI:G.tr=V.lg.tr) (hGd:G.day=V.lg.day) (iv:sV ((V.B i).h t k0) s ⟨(V.B i).leave V.om t k0,aQ V.om ((V.B i).h t k0) (dV (V.om ((V.B i).h t k0)) af aK),G⟩) (htr:(mF ((V.B i).h t k0) s ⟨(V.B i).leave V.om t k0,aQ V.om ((V.B i).h t k0) (dV (V.om ((V.B i).h t k0)) af aK),G⟩).lg.tr.length+1<1000000000)
 (hbk:∀u,u<2->∀k,k<(V.B i).n u->bk ((V.B i).h u k)=V.bk i) (hx:ext.length+V.lg.tr.length=(mF ((V.B i).h t k0) s ⟨(V.B i).leave V.om t k0,aQ V.om ((V.B i).h t k0) (dV (V.om ((V.B i).h t k0)) af aK),G⟩).lg.tr.length)
 (h0:0<=(V.B i).places) (h1:(V.B i).places<=1000000000000)
 (hV:dQ (MV V i (V.lm.tb++ext) ⟨eu ((V.B i).h t k0) t g cap' (mF ((V.B i).h t k0) s ⟨(V.B i).leave V.om t k0,aQ V.om ((V.B i).h t k0) (dV (V.om ((V.B i).h t k0)) af aK),G⟩),aH ((V.B i).h t k0) (mF ((V.B i).h t k0) s ⟨(V.B i).leave V.om t k0,aQ V.om ((V.B i).h t k0) (dV (V.om ((V.B i).h t k0)) af aK),G⟩),iC ((V.B i).h t k0) (mF ((V.B i).h t k0) s ⟨(V.B i).leave V.om t k0,aQ V.om ((V.B i).h t k0) (dV (V.om ((V.B i).h t k0)) af aK),G⟩)⟩) V1) :
 ∃ds Ts,(iC ((V.B i).h t k0) (mF ((V.B i).h t k0) s ⟨(V.B i).leave V.om t k0,aQ V.om ((V.B i).h t k0) (dV (V.om ((V.B i).h t k0)) af aK),G⟩)).nt=G.nt++ds/\jO bk (KK l) ([.left ((V.B i).h t k0),.gp ((V.B i).h t k0) (V.om ((V.B i).h t k0))]++ds) ([[],[]]++Ts) V V1:=by
 obtain⟨b,hb⟩:=kL ((V.B i).h t k0);rw[<-hb]at iv htr hx hV ⊢;obtain⟨Ib,ho1⟩:=kL (aQ V.om b (dV (V.om b) af aK));rw[<-ho1]at iv htr hx hV ⊢;have hm0:Mem ((V.B i).n t) ((V.B i).h t) b:=⟨k0,hk0,hb⟩;have hvb:VL V b:=(((gw.gb i hi).mem t ht b).1 hm0).1;have hmo:=uQ b s (mu b s ⟨(V.B i).leave V.om t k0,Ib,G⟩) ⟨(V.B i).leave V.om t k0,Ib,G⟩;have hGl:G.tr.length+1<1000000000:=by
  have:G.tr.length<=(mF b s ⟨(V.B i).leave V.om t k0,Ib,G⟩).lg.tr.length:=hmo;omega
 have hK:KK l V:=⟨hl,by rw[<-ZI];omega⟩;have dl:=uJ (dK:=V.om) gw.hs hi ht hk0;rw[<-hb]at dl;have u1:jO bk (KK l) [.left b,.gp b (V.om b)] [[],[]] V (MV V i V.lm.tb ⟨(V.B i).leave V.om t k0,Ib,G⟩):=by
  refine jO.jD (jO.one hK (tV hi ht (by rw[hb];exact hbk t ht k0 hk0) hvb (((gw.gb i hi).mem t ht b).1 hm0).2.2.1 hm0 (fun j hj u hu h=>gw.one hi hj ht hu hm0 h) dl (fun _ _=>rfl)) (show KK l { V with B:=aQ V.B i ((V.B i).leave V.om t k0) } from hK)) ?_ ⟨hl,by show G.tr.length<_;omega⟩;refine mQ (V:={ V with B:=aQ V.B i ((V.B i).leave V.om t k0) }) (o':=dV (V.om b) af aK) hvb rfl rfl (fun j hj u hu h=>?_) ⟨rfl,fun _ _=>rfl,fun _ _=>rfl,fun _ _=>rfl,fun _ _ _ _ _=>Iff.rfl,rfl,rfl,fun x _=>by show Ib x=_;rw[ho1],ZI,hGd,rfl⟩;exfalso;rw[dl.mem j hj u hu b]at h;by_cases c:j=i/\u=t
  ·rw[if_pos c]at h;exact h.2 rfl
  ·rw[if_neg c]at h;exact c (gw.one hi hj ht hu hm0 h)
 have other:∀u,u≠t->((V.B i).leave V.om t k0).n u=(V.B i).n u/\((V.B i).leave V.om t k0).h u=(V.B i).h u:=fun u e =>
  ⟨by simp only[Bk.leave,ah _ _ e],by simp only[Bk.leave,ah _ _ e]⟩
 have sub:∀j,j<V.nb->∀u,u<2->∀x,Mem ((aQ V.B i ((V.B i).leave V.om t k0) j).n u) ((aQ V.B i ((V.B i).leave V.om t k0) j).h u) x->Mem ((V.B j).n u) ((V.B j).h u) x/\x≠b:=fun j hj u hu x h=>by
  have h':=(dl.mem j hj u hu x).1 h;by_cases c:j=i/\u=t
  ·rw[if_pos c]at h';obtain⟨rfl,rfl⟩:=c;exact h'
  ·rw[if_neg c]at h';exact⟨h',fun e=>c (gw.one hi hj ht hu hm0 (e▸h'))⟩
 obtain⟨ds,Ts,en,u2⟩:=KZ (bk:=bk) (V:=V) (V1:=V1) (l:=l) (dW:=V.lm.tb) (ext:=ext) (st:=⟨(V.B i).leave V.om t k0,Ib,G⟩) (g:=g) (cap':=cap') hi h2 ht hvb hl iv htr (fun k hkk=>by
  rw[show ((V.B i).leave V.om t k0).n s=(V.B i).n s from (other s hst).1]at hkk;show bk (((V.B i).leave V.om t k0).h s k)=_/\VL V (((V.B i).leave V.om t k0).h s k);rw[(other s hst).2];exact⟨hbk s h2 k hkk,(((gw.gb i hi).mem s h2 _).1 ⟨k,hkk,rfl⟩).1⟩) (fun k hkk j hj u hu hm=>by
  have ac9:k<(V.B i).n s:=by rw[<-(other s hst).1];exact hkk
  refine gw.one hi hj h2 hu ⟨k,ac9,rfl⟩ ?_;have:=(sub j hj u hu _ hm).1;rw[show (MS.B ⟨(V.B i).leave V.om t k0,Ib,G⟩).h s k=(V.B i).h s k by show ((V.B i).leave V.om t k0).h s k=_;rw[(other s hst).2]]at this;exact this) (by show ext.length+G.tr.length=_;rw[ZI];exact hx) (by rw[hb];exact hbk t ht k0 hk0) (fun j hj u hu hm=>(sub j hj u hu _ hm).2 rfl) h0 h1 hV
 exact⟨ds,Ts,en,u1.append u2⟩
open Go.RowKit
attribute [local go_sem ↓] Go.wp_at_zero Go.wp_at_succ
def RS.Sz(S:RS)(k:Nat)(x:Tg):RS:=(S.acj k ⟨x.t,false⟩).acu 2 x.t
theorem JG{l:List Ord}{i:Nat}{y:Ord}(hi:i<l.length)(hy:y.id=(ax l i).id)(id:Int):iU (l.set i y) id=iU l id:=by
 unfold iU
 induction l generalizing i with
 | nil=>simp at hi
 | cons a l ih =>
   cases i with
   | zero =>
     have:(ax (a :: l) 0).id=a.id:=rfl;rw[this]at hy;simp only[List.set_cons_zero,List.findIdx?_cons,hy]
   | succ i =>
     have hi2:i<l.length:=by simpa using hi
     have:=ih hi2 (by rw[hy];rfl);simp only[List.set_cons_succ,List.findIdx?_cons,this]
theorem RS.uC(S:RS){i:Nat}(hi:i<S.l.length)(n:Int)(again:Bool)(id:Int):iU (S.gm i n again).l id=iU S.l id/\(S.gm i n again).l.length=S.l.length:=by
 unfold RS.gm;split
 ·unfold RS.qW RS.uB RS.ik;simp only[List.set_set,List.length_set,and_true];exact JG hi (by rw[qj hi];rfl) id
 ·unfold RS.ik;simp only[List.length_set,and_true];exact JG hi (y:={ Hw (ax S.l i) n with bZ:=wrap64 ((ax S.l i).bZ+n) }) rfl id
end Go.Proofs.YtigaphnafnpfnaaGreatDoor
