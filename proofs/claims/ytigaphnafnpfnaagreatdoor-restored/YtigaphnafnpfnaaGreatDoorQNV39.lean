import Derived.Test.YtigaphnafnpfnaaGreatDoorQNV32
set_option linter.unusedVariables false
set_option linter.unusedSimpArgs false
namespace Go.Proofs.YtigaphnafnpfnaaGreatDoor
open Go.RowKit Go.Maps Go.Shelf
theorem GW.Eb{V V':aS}{M M':Int}(g:GW V M)(g':GW V' M')(hnb:V'.nb=V.nb)(hbk:∀i,i<V.nb->V'.bk i=V.bk i)(hsy:∀i,i<V.nb->(V'.B i).sym=(V.B i).sym)(hpl:∀i,i<V.nb->(V'.B i).places=(V.B i).places)(rH:V'.aW=V.aW)(hno:V'.no=V.no)
 (jK:∀x,VL V x->V'.om x=V.om x) (htr:V'.lg.tr=V.lg.tr) (hdy:V'.lg.day=V.lg.day) (htb:V'.lm.tb=V.lm.tb):dQ V V':=by
 have vl:∀x,VL V' x↔VL V x:=fun x=>by unfold VL;rw[rH]
 refine⟨hnb,hbk,hsy,hpl,fun i hi s hs x=>?_,rH,hno,jK,htr,hdy,htb⟩;rw[(g'.gb i (by omega)).mem s hs x,(g.gb i hi).mem s hs x,hsy i hi];constructor
 ·rintro⟨a,b⟩;have a':=(vl x).1 a;rw[jK x a']at b;exact⟨a',b⟩
 ·rintro⟨a,b⟩;rw[jK x a];exact⟨(vl x).2 a,b⟩
theorem X6{bk:Nat->Nat}{V V':aS}{M:Int}{l:List Nat}{b:Nat}{q:Int}(g:GW V M)(g':GW V' M)(hK:KK l V)(hb:VL V b)(hnb:V'.nb=V.nb)(hbk:∀i,i<V.nb->V'.bk i=V.bk i)(hsy:∀i,i<V.nb->(V'.B i).sym=(V.B i).sym)(hpl:∀i,i<V.nb->(V'.B i).places=(V.B i).places)(rH:V'.aW=V.aW)(hno:V'.no=V.no)
 (jK:V'.om=aQ V.om b (fF (V.om b) q)) (htr:V'.lg.tr=V.lg.tr) (hdy:V'.lg.day=V.lg.day) (htb:V'.lm.tb=V.lm.tb):jO bk (KK l) [.gp b (V.om b)] [[]] V V':=by
 have vl:∀x,VL V' x↔VL V x:=fun x=>by unfold VL;rw[rH]
 refine jO.one hK (mQ (o':=fF (V.om b) q) hb rfl rfl (fun _ _ _ _ _=>⟨rfl,rfl⟩) ⟨hnb,hbk,hsy,hpl,fun i hi s hs x=>?_,rH,hno,fun x hx=>by rw[jK],htr,hdy,htb⟩) ⟨fun x hx=>hK.1 x ((vl x).1 hx),by rw[htr];exact hK.2⟩;show Mem ((V'.B i).n s) ((V'.B i).h s) x↔Mem ((V.B i).n s) ((V.B i).h s) x;have hi':i<V.nb:=hi;rw[(g'.gb i (by omega)).mem s hs x,(g.gb i hi').mem s hs x,hsy i hi',jK,vl];by_cases e:x=b
 ·subst e;rw[ai];exact Iff.rfl
 ·rw[ah _ _ e]
theorem X7{bk:Nat->Nat}{V V':aS}{M:Int}{l:List Nat}{b i t:Nat}{q:Int}(g:GW V M)(g':GW V' M)(hK:KK l V)(hb:VL V b)(hi:i<V.nb)(ht:t<2)(hsb:(V.om b).sym=(V.B i).sym)(hsd:(V.om b).side=(t:Int))(hbk0:bk b=V.bk i)(h0:0<=(V.B i).places)(h1:(V.B i).places<=1000000000000)(hpos:0<(V'.om b).aO)(ho0:0<=(V.om b).aO)
 (hnb:V'.nb=V.nb) (hbk:∀i,i<V.nb->V'.bk i=V.bk i) (hsy:∀i,i<V.nb->(V'.B i).sym=(V.B i).sym) (hpl:∀j,j<V.nb->(V'.B j).places=if j=i then wrap64 ((V.B i).places+1) else (V.B j).places) (rH:V'.aW=V.aW) (hno:V'.no=V.no)
 (jK:V'.om=cZ V i b q) (htr:V'.lg.tr=V.lg.tr) (hdy:V'.lg.day=V.lg.day) (htb:V'.lm.tb=V.lm.tb):∃Ts,jO bk (KK l) ((if 0<(V.om b).aO then [.left b] else [])++[.gp b (V.om b),.fC b (V.om b).place]) Ts V V':=by
 have vl:∀x,VL V' x↔VL V x:=fun x=>by unfold VL;rw[rH]
 have one:∀j,j<V.nb->∀u:Nat,u<2->(V.om b).sym=(V.B j).sym->(V.om b).side=(u:Int)->j=i/\u=t:=fun j hj u hu e1 e2=>by
  refine⟨g.lW j i hj hi (e1.symm.trans hsb),?_⟩;rw[hsd]at e2;exact (Int.ofNat_inj.1 e2).symm
 obtain⟨Va,Ts0,u0,e1,e2,e3,e4,e5,e6,e7,e8,e9,e10,em⟩:∃Va Ts0,jO bk (KK l) (if 0<(V.om b).aO then [.left b] else []) Ts0 V Va/\Va.nb=V.nb/\(∀j,j<V.nb->Va.bk j=V.bk j)/\(∀j,j<V.nb->(Va.B j).sym=(V.B j).sym)/\(∀j,j<V.nb->(Va.B j).places=(V.B j).places)/\Va.aW=V.aW/\Va.no=V.no/\Va.om=V.om/\Va.lg=V.lg/\Va.lm=V.lm/\True/\∀j,j<V.nb->∀u,u<2->∀x,Mem ((Va.B j).n u) ((Va.B j).h u) x↔Mem ((V.B j).n u) ((V.B j).h u) x/\x≠b:=by
  by_cases hz:0<(V.om b).aO
  ·rw[if_pos hz];have hm0:Mem ((V.B i).n t) ((V.B i).h t) b:=((g.gb i hi).mem t ht b).2 ⟨hb,hsb,hsd,hz⟩;obtain⟨k0,hk0,ek⟩:=hm0;have dl:=uJ (dK:=V.om) g.hs hi ht hk0;rw[<-ek]at dl;refine⟨{ V with B:=aQ V.B i ((V.B i).leave V.om t k0) },[[]],jO.one hK (tV hi ht hbk0 hb hsd ⟨k0,hk0,ek⟩ (fun j hj u hu h=>g.one hi hj ht hu ⟨k0,hk0,ek⟩ h) dl (fun _ _=>rfl)) hK,rfl,fun _ _=>rfl,dl.sym,fun j hj=>?_,rfl,rfl,rfl,rfl,rfl,trivial,fun j hj u hu x=>?_⟩
   ·rw[dl.vz j hj];by_cases c:j=i
    ·rw[if_pos c,c]
    ·rw[if_neg c]
   ·rw[dl.mem j hj u hu x];by_cases c:j=i/\u=t
    ·rw[if_pos c];obtain⟨rfl,rfl⟩:=c;exact Iff.rfl
    ·rw[if_neg c];exact⟨fun h=>⟨h,fun e=>c (g.one hi hj ht hu ⟨k0,hk0,ek⟩ (e▸h))⟩,fun h=>h.1⟩
  ·rw[if_neg hz];refine⟨V,[],jO.nil V hK,rfl,fun _ _=>rfl,fun _ _=>rfl,fun _ _=>rfl,rfl,rfl,rfl,rfl,rfl,trivial,fun j hj u hu x=>⟨fun h=>⟨h,fun e=>?_⟩,fun h=>h.1⟩⟩;have:=(((g.gb j hj).mem u hu x).1 h).2.2.2;rw[e]at this;exact hz this
 have vla:∀x,VL Va x↔VL V x:=fun x=>by unfold VL;rw[e5]
 have outA:FD Va b:=fun j hj u hu h=>((em j (by omega) u hu b).1 h).2 rfl
 have kk:∀dK,KK l { Va with om:=dK }:=fun dK=>⟨fun x hx=>hK.1 x ((vla x).1 hx),by show Va.lg.tr.length<_;rw[e8];exact hK.2⟩
 have u1:jO bk (KK l) ((if 0<(V.om b).aO then [.left b] else [])++[.gp b (V.om b)]) (Ts0++[[]]) V { Va with om:=aQ V.om b (fM (V.om b) q) }:=by
  refine jO.jD u0 ?_ (kk _);have h:=mQ (bk:=bk) (V:=Va) (V1:={ Va with om:=aQ V.om b (fM (V.om b) q) }) (b:=b) (o':=fM (V.om b) q) ((vla b).2 hb) (by rw[e7];rfl) (by rw[e7];rfl) (fun j hj u hu hm=>absurd hm (outA j hj u hu)) (by rw[e7];exact dQ.refl _);rw[e7]at h;exact h
 have hVb:(aQ V.om b (fM (V.om b) q)) b=fM (V.om b) q:=ai _ _ _;have hB:Ej bk (.fC b ((aQ V.om b (fM (V.om b) q)) b).place) [] { Va with om:=aQ V.om b (fM (V.om b) q) } V':=by
  refine IB (V:={ Va with om:=aQ V.om b (fM (V.om b) q) }) (i:=i) (s:=t) (pl:=wrap64 ((V.B i).places+1)) (q:=wrap64 ((V.B i).places+1)) (by show i<Va.nb;omega) ht (by show bk b=Va.bk i;rw[e2 i hi];exact hbk0) ((vla b).2 hb) outA (by show (Va.B i).places=_;rw[e4 i hi];exact Fp h0 h1) ?_ (fun x _=>by rw[jK];simp only[cZ,hVb]);refine⟨by show V'.nb=Va.nb;omega,fun j hj=>?_,fun j hj=>?_,fun j hj=>?_,fun j hj u hu x=>?_,by show V'.aW=Va.aW;rw[rH,e5],by show V'.no=Va.no;rw[hno,e6],by show V'.lg.tr=Va.lg.tr;rw[htr,e8],by show V'.lg.day=Va.lg.day;rw[hdy,e8],by show V'.lm.tb=Va.lm.tb;rw[htb,e9]⟩
  ·have hj':j<V.nb:=by simp only at hj;omega
   show V'.bk j=Va.bk j;rw[hbk j hj',e2 j hj']
  ·have hj':j<V.nb:=by simp only at hj;omega
   show (V'.B j).sym=(Va.B j).sym;rw[hsy j hj',e3 j hj']
  ·have hj':j<V.nb:=by simp only at hj;omega
   show (V'.B j).places=if j=i then _ else (Va.B j).places
   rw[hpl j hj',e4 j hj']
  ·have hj':j<V.nb:=by simp only at hj;omega
   show Mem ((V'.B j).n u) ((V'.B j).h u) x↔if j=i/\u=t then (Mem ((Va.B i).n t) ((Va.B i).h t) x\/x=b) else Mem ((Va.B j).n u) ((Va.B j).h u) x
   rw[(g'.gb j (by omega)).mem u hu x,hsy j hj',vl];by_cases e:x=b
   ·subst e;have ob:(V'.om x).sym=(V.om x).sym/\(V'.om x).side=(V.om x).side:=by rw[jK];simp only[cZ,ai];exact⟨rfl,rfl⟩
    rw[ob.1,ob.2];by_cases c:j=i/\u=t
    ·rw[if_pos c];obtain⟨rfl,rfl⟩:=c;exact⟨fun _=>.inr rfl,fun _=>⟨hb,hsb,hsd,hpos⟩⟩
    ·rw[if_neg c,em j hj' u hu x];exact⟨fun h=>absurd (one j hj' u hu h.2.1 h.2.2.1) c,fun h=>absurd rfl h.2⟩
   ·have ox:V'.om x=V.om x:=by rw[jK];simp only[cZ,ah _ _ e]
    rw[ox,<-(g.gb j hj').mem u hu x];by_cases c:j=i/\u=t
    ·rw[if_pos c];obtain⟨rfl,rfl⟩:=c;rw[em j hj' u hu x];exact⟨fun h=>.inl ⟨h,e⟩,fun h=>h.elim (fun h=>h.1) (fun h=>absurd h e)⟩
    ·rw[if_neg c,em j hj' u hu x];exact⟨fun h=>⟨h,e⟩,fun h=>h.1⟩
 rw[hVb]at hB;have u2:=jO.jD u1 hB ⟨fun x hx=>hK.1 x ((vl x).1 hx),by rw[htr];exact hK.2⟩;rw[List.append_assoc]at u2;exact⟨_,u2⟩
theorem X5{bk:Nat->Nat}{V V':aS}{M:Int}{l:List Nat}{b i t:Nat}{o':Ord}(g:GW V M)(g':GW V' M)(hK:KK l V)(hb:VL V b)(hi:i<V.nb)(ht:t<2)(hsb:(V.om b).sym=(V.B i).sym)(hsd:(V.om b).side=(t:Int))(hz:0<(V.om b).aO)(hbk0:bk b=V.bk i)
 (o1:o'.id=(V.om b).id) (o2:o'.place=(V.om b).place) (o3:o'.aO=0)
 (hnb:V'.nb=V.nb) (hbk:∀i,i<V.nb->V'.bk i=V.bk i) (hsy:∀i,i<V.nb->(V'.B i).sym=(V.B i).sym) (hpl:∀j,j<V.nb->(V'.B j).places=(V.B j).places) (rH:V'.aW=V.aW) (hno:V'.no=V.no)
 (jK:V'.om=aQ V.om b o') (htr:V'.lg.tr=V.lg.tr) (hdy:V'.lg.day=V.lg.day) (htb:V'.lm.tb=V.lm.tb):jO bk (KK l) [.left b,.gp b (V.om b)] [[],[]] V V':=by
 have vl:∀x,VL V' x↔VL V x:=fun x=>by unfold VL;rw[rH]
 obtain⟨k0,hk0,ek⟩:Mem ((V.B i).n t) ((V.B i).h t) b:=((g.gb i hi).mem t ht b).2 ⟨hb,hsb,hsd,hz⟩;have dl:=uJ (dK:=V.om) g.hs hi ht hk0;rw[<-ek]at dl;have out:∀j,j<V.nb->∀u,u<2->∀x,Mem ((aQ V.B i ((V.B i).leave V.om t k0) j).n u) ((aQ V.B i ((V.B i).leave V.om t k0) j).h u) x↔Mem ((V.B j).n u) ((V.B j).h u) x/\x≠b:=fun j hj u hu x=>by
  have h:=dl.mem j hj u hu x;by_cases c:j=i/\u=t
  ·rw[if_pos c]at h;obtain⟨rfl,rfl⟩:=c;exact h
  ·rw[if_neg c]at h;exact h.trans ⟨fun h=>⟨h,fun e=>c (g.one hi hj ht hu ⟨k0,hk0,ek⟩ (e▸h))⟩,fun h=>h.1⟩
 refine jO.jD (jO.one hK (tV hi ht hbk0 hb hsd ⟨k0,hk0,ek⟩ (fun j hj u hu h=>g.one hi hj ht hu ⟨k0,hk0,ek⟩ h) dl (fun _ _=>rfl)) (show KK l { V with B:=aQ V.B i ((V.B i).leave V.om t k0) } from hK)) ?_ ⟨fun x hx=>hK.1 x ((vl x).1 hx),by rw[htr];exact hK.2⟩;refine mQ (V:={ V with B:=aQ V.B i ((V.B i).leave V.om t k0) }) (o':=o') hb o1 o2 (fun j hj u hu h=>absurd rfl ((out j hj u hu b).1 h).2) ⟨hnb,hbk,fun j hj=>?_,fun j hj=>?_,fun j hj u hu x=>?_,rH,hno,fun x _=>by rw[jK],htr,hdy,htb⟩
 ·exact (hsy j hj).trans (dl.sym j hj).symm
 ·refine (hpl j hj).trans ?_;have h:=dl.vz j hj;by_cases c:j=i
  ·rw[if_pos c]at h;rw[c]at h ⊢;exact h.symm
  ·rw[if_neg c]at h;exact h.symm
 ·refine Iff.trans ?_ (out j hj u hu x).symm;have hj':j<V.nb:=hj;rw[(g'.gb j (by omega)).mem u hu x,(g.gb j hj').mem u hu x,hsy j hj',vl,jK];by_cases e:x=b
  ·subst e;rw[ai,o3];exact⟨fun h=>absurd h.2.2.2 (by omega),fun h=>absurd rfl h.2⟩
  ·rw[ah _ _ e];exact⟨fun h=>⟨h,e⟩,fun h=>h.1⟩
theorem aaI{bk:Nat->Nat}{V V':aS}{M:Int}{l:List Nat}{b i s t:Nat}{q:Int}{again:Bool}(g:GW V M)(hv:Zu V M i s b q again V')(hK:KK l V)(hb:VL V b)(hi:i<V.nb)(ht:t<2)(hsb:(V.om b).sym=(V.B i).sym)(hsd:(V.om b).side=(t:Int))(hbk0:bk b=V.bk i)(h0:0<=(V.B i).places)(h1:(V.B i).places<=1000000000000)
 (hM:M<=1000000000000000) (hq:1<=q) (hq2:q<=(V.om b).filled) (hbk:V'.bk=V.bk) (htr:V'.lg.tr=V.lg.tr) (hdy:V'.lg.day=V.lg.day) (htb:V'.lm.tb=V.lm.tb):∃Ts,jO bk (KK l) (VF V i s b again) Ts V V':=by
 have hbk':∀j,j<V.nb->V'.bk j=V.bk j:=fun j _=>by rw[hbk]
 rcases hv.way with⟨hc,jK,hp⟩ | ⟨ha,hr,hf,jK,hp⟩
 ·refine⟨[[]],?_⟩;rw[VF,if_pos hc];exact X6 g hv.gw hK hb hv.nb hbk' (fun j _=>hv.lL j) (fun j _=>hp j) hv.aW hv.no jK htr hdy htb
 ·rw[VF,if_neg (by rintro (h | h | h);· rw[ha]at h;simp at h
                   ·rw[hr]at h;simp at h
                   ·rw[hf]at h;simp at h)]
  have q0:=g.q b hb;have a1:=q0.o0;have a2:=q0.f0;have a3:=q0.c0;have a4:=q0.e0;have a5:=q0.sum;have a6:=q0.hi;refine X7 g hv.gw hK hb hi ht hsb hsd hbk0 h0 h1 ?_ a1 hv.nb hbk' (fun j _=>hv.lL j) (fun j _=>hp j) hv.aW hv.no jK htr hdy htb;rw[jK];simp only[cZ,ai,fM];rw[aT (by omega) (by omega)];omega
theorem bU.gK{w:World}{bv:Nat}{bk:Nat->Nat}{lo:Nat}{d:dY}{c:Value}(h:bU w bv bk lo d c){x:Nat}(hx:yA c x):∃cs t,aA w x cs t/\o7 d.sZ t:=by
 obtain⟨fn,cp,rfl,h⟩:=h;obtain⟨fn',cp',e,hx⟩:=hx;simp only[Value.func.injEq]at e;obtain⟨_,_,rfl⟩:=e;cases d with
 | gp b od =>
   obtain⟨e,H,h0,rfl,h1,h2⟩:=h;simp at hx;rcases hx with e | e <;> rw[fZ e]
   ·exact⟨_,_,h2,.inr (.inl rfl)⟩
   ·exact⟨_,_,h1,.inl rfl⟩
 | left b =>
   obtain⟨e,H,h0,rfl,h1,h2⟩:=h;simp at hx;rcases hx with e | e <;> rw[fZ e]
   ·exact⟨_,_,h1,lN rfl⟩
   ·exact⟨_,_,h2,.inl rfl⟩
 | fC b p =>
   obtain⟨e,H,h0,rfl,⟨h1,h2⟩,h3⟩:=h;simp at hx;rcases hx with e | e | e <;> rw[fZ e]
   ·exact⟨_,_,h1,lN rfl⟩
   ·exact⟨_,_,h2,.inl rfl⟩
   ·exact⟨_,_,h3,jZ rfl⟩
 | entered id =>
   obtain⟨e,H,cs,h0,rfl,h1,h2,h3⟩:=h;simp at hx;rcases hx with e | e <;> rw[fZ e]
   ·exact⟨_,_,h1,qm rfl⟩
   ·exact⟨_,_,h2,ol5 rfl⟩
 | di s =>
   obtain⟨e,H,K,h0,hK,rfl,h1,h2⟩:=h;simp at hx;rcases hx with e | e <;> rw[fZ e]
   ·exact⟨_,_,h1,qm rfl⟩
   ·exact⟨_,_,h2,ol6 rfl⟩
 | iZ t =>
   obtain⟨e,H,h0,rfl,h1,h2⟩:=h;simp at hx;rcases hx with e | e <;> rw[fZ e]
   ·exact⟨_,_,h1,qm rfl⟩
   ·exact⟨_,_,h2,ol7 rfl⟩
 | jU tb =>
   obtain⟨e,H,K,h0,hK,rfl,h1,h2⟩:=h;simp at hx;rcases hx with e | e <;> rw[fZ e]
   ·exact⟨_,_,h2,or8 ⟨rfl,rfl⟩⟩
   ·exact⟨_,_,h1,qm rfl⟩
 | iW tb p =>
   obtain⟨e,H,K,J,h0,hK,hJ,rfl,h1,h2,h3⟩:=h;simp at hx;rcases hx with e | e | e <;> rw[fZ e]
   ·exact⟨_,_,h1,qm rfl⟩
   ·exact⟨_,_,h2,or8 ⟨rfl,rfl⟩⟩
   ·exact⟨_,_,h3,jZ rfl⟩
 | closed =>
   obtain⟨e,H,h0,rfl,h1⟩:=h;simp at hx;rw[fZ hx];exact⟨_,_,h1,qm rfl⟩
theorem bU.uP{w:World}{bv:Nat}{bk:Nat->Nat}{lo:Nat}{d:dY}{c:Value}(h:bU w bv bk lo d c):bU w bv bk 0 d c:=by
 obtain⟨fn,cp,rfl,h⟩:=h;refine⟨fn,cp,rfl,?_⟩;cases d with
 | gp b od=>obtain⟨e,H,h0,e2,h⟩:=h;exact⟨e,H,Nat.zero_le _,e2,h⟩
 | left b=>obtain⟨e,H,h0,e2,h⟩:=h;exact⟨e,H,Nat.zero_le _,e2,h⟩
 | fC b p=>obtain⟨e,H,h0,e2,h⟩:=h;exact⟨e,H,Nat.zero_le _,e2,h⟩
 | entered id=>obtain⟨e,H,cs,h0,h⟩:=h;exact⟨e,H,cs,Nat.zero_le _,h⟩
 | di s=>obtain⟨e,H,K,h0,hK,h⟩:=h;exact⟨e,H,K,Nat.zero_le _,Nat.zero_le _,h⟩
 | iZ t=>obtain⟨e,H,h0,h⟩:=h;exact⟨e,H,Nat.zero_le _,h⟩
 | jU tb=>obtain⟨e,H,K,h0,hK,h⟩:=h;exact⟨e,H,K,Nat.zero_le _,Nat.zero_le _,h⟩
 | iW tb p=>obtain⟨e,H,K,J,h0,hK,hJ,h⟩:=h;exact⟨e,H,K,J,Nat.zero_le _,Nat.zero_le _,Nat.zero_le _,h⟩
 | closed=>obtain⟨e,H,h0,h⟩:=h;exact⟨e,H,Nat.zero_le _,h⟩
structure mY where
 bk:Nat->Nat
 ds:List dY
 Ts:List (List (Int × Tr))
 cl:List Value
structure Ri(bv bm bo:Nat)(V:aS)(n:mY)(w:World):Prop where
 len:n.cl.length=n.ds.length
 nH:∀(i:Nat) (d:dY) (c:Value),n.ds[i]?=some d->n.cl[i]?=some c->bU w bv n.bk 0 d c
 off:∀c∈n.cl,∀x,yA c x->¬dO bv bm bo V x
theorem Ri.lt{bv bm bo:Nat}{V:aS}{n:mY}{w:World}(h:Ri bv bm bo V n w){c:Value}(hc:c∈n.cl){x:Nat}(hx:yA c x):x<w.heap.size:=by
 obtain⟨i,hi,rfl⟩:=List.mem_iff_getElem.1 hc;have hi':i<n.ds.length:=by rw[<-h.len];exact hi
 exact ((h.nH i n.ds[i] n.cl[i] (List.getElem?_eq_getElem hi') (List.getElem?_eq_getElem hi)).cap hx).2
theorem Ri.aC{bv bm bo:Nat}{V V':aS}{n:mY}{w w':World}(h:Ri bv bm bo V n w)(k:aj (dO bv bm bo V) w w')(hF:∀x,dO bv bm bo V' x->dO bv bm bo V x\/w.heap.size<=x):Ri bv bm bo V' n w':=by
 refine⟨h.len,fun i d c hd hc=>(h.nH i d c hd hc).Uk k (fun x hx=>h.off c (List.mem_of_getElem? hc) x hx),fun c hc x hx hf=>?_⟩;rcases hF x hf with e | e
 ·exact h.off c hc x hx e
 ·have:=h.lt hc hx;omega
theorem Ri.aB{bv bm bo:Nat}{V:aS}{n:mY}{w w':World}{K:Nat->Prop}(h:Ri bv bm bo V n w)(k:aj K w w')(hK:∀c∈n.cl,∀x,yA c x->¬K x):Ri bv bm bo V n w' :=
 ⟨h.len,fun i d c hd hc=>(h.nH i d c hd hc).Uk k (fun x hx=>hK c (List.mem_of_getElem? hc) x hx),h.off⟩
def DN(bv bm bo:Nat)(V V':aS)(B:List (Int × Tr))(lo:Nat)(w':World):Prop :=
 ∃(n:mY) (l:List Nat),jO n.bk (KK l) n.ds n.Ts V V'/\l.length<1000/\(0<n.ds.length/\n.ds.length<=100000)/\n.Ts.flatten=B/\V'.lm.ac.map Prod.snd=V.lm.ac.map Prod.snd++[n.cl]/\V'.lg.nt=n.ds/\Ri bv bm bo V' n w'/\∀c∈n.cl,∀x,yA c x->lo<=x
theorem yw{w:World}{b:Nat}{c c':Array Value}{t t':TypeId}(h:aA w b c t)(h':aA w b c' t'):t=t':=by
 unfold aA at h h';rw[h]at h';simp only[Option.some.injEq,Obj.cells.injEq]at h';exact h'.2.1
theorem iw.off{w:World}{bv bm bo:Nat}{bk:Nat->Nat}{lo:Nat}{q:Bool}{old:List (List Value)}{dW:List Nat}{V:aS}{cl:List Value}(h:iw w bv bk lo q old V.lg.nt dW V.lm cl)(R:dS w bv bm bo V)(harr:AO V cl):∀c∈cl,∀x,yA c x->¬dO bv bm bo V x:=by
 intro c hc x hx hf;obtain⟨i,hi,rfl⟩:=List.mem_iff_getElem.1 hc;have hi':i<V.lg.nt.length:=by rw[<-h.len];exact hi
 have hB:=h.nH i _ _ (List.getElem?_eq_getElem hi') (List.getElem?_eq_getElem hi);have hlo:=(hB.cap hx).1;obtain⟨cs,t,hb,ht⟩:=hB.gK hx;have Gz:∀{c':Array Value} {t':TypeId},aA w x c' t'->¬o7 true t'->False:=fun hc' hn=>by
  have e:=yw hb hc';subst e;rcases ht with e | e | e | e | e | e | e | e | ⟨_,e⟩
  ·exact hn (.inl e)
  ·exact hn (.inr (.inl e))
  ·exact hn (lN e)
  ·exact hn (jZ e)
  ·exact hn (qm e)
  ·exact hn (ol5 e)
  ·exact hn (ol6 e)
  ·exact hn (ol7 e)
  ·exact hn (or8 ⟨rfl,e⟩)
 have nb:∀t':TypeId,(t'=100\/t'=158\/t'=116\/t'=62\/t'=5\/t'=105\/t'=109\/t'=1)->¬o7 true t':=by
  rintro t' (e | e | e | e | e | e | e | e) <;> subst e <;> (rintro (e | e | e | e | e | e | e | e | ⟨_,e⟩) <;> exact absurd e (by decide))
 rcases hf with e | e | e | ⟨j,hj,e⟩ | ⟨id,e⟩ | e
 ·subst e;exact Gz R.dC (nb _ (.inl rfl))
 ·subst e;obtain⟨fB,mB,_⟩:=R.iM;exact mB.ne hb rfl
 ·subst e;obtain⟨fO,mO,_⟩:=R.fH;exact mO.ne hb rfl
 ·rcases e with e | ⟨y,hy,e | ⟨k,hk,e⟩⟩
  ·subst e;exact Gz (R.aY j hj).aF (nb _ (.inr (.inl rfl)))
  ·exact harr j hj y hy x e _ hc x hx rfl
  ·obtain⟨id,hid⟩:=R.mem j hj y hy k hk;obtain⟨_,ix,ho⟩:=R.bz id _ hid;rw[<-e]at ho;exact Gz ho (nb _ (lN rfl))
 ·obtain⟨_,ix,ho⟩:=R.bz id x e;exact Gz ho (nb _ (lN rfl))
 ·rcases e with e | (e | e) | e | e
  ·obtain⟨cs',hc'⟩:=bK R.aP.aP.jJ e;cases hT:(V.lg.nt[i]).sZ with
   | true =>
     have:=h.tvl _ (List.getElem_mem hi') hT x e;omega
   | false =>
     rw[hT]at ht;have et:=yw hb hc';subst et;rcases ht with e | e | e | e | e | e | e | e | ⟨e,_⟩
     all_goals exact absurd e (by decide)
  ·obtain⟨cs',hc'⟩:=bK R.aP.aP.iO e;exact Gz hc' (nb _ (jZ rfl))
  ·obtain⟨cs',hc'⟩:=bK R.aP.aP.kV e;exact Gz hc' (nb _ (qm rfl))
  ·obtain⟨k,hk,e2⟩:=List.mem_iff_getElem.1 e;have hk':k<V.lg.tr.length:=by rw[<-R.aP.aP.len];exact hk
   have:=R.aP.aP.aF k x V.lg.tr[k] (by rw[List.getElem?_eq_getElem hk,e2]) (List.getElem?_eq_getElem hk');exact Gz this (nb _ (ol5 rfl))
  ·obtain⟨c',t',hc',ht'⟩:=R.aP.aP.act.gK e;rcases ht' with e | e
   ·subst e;exact Gz hc' (nb _ (ol6 rfl))
   ·subst e;exact Gz hc' (nb _ (or7 rfl))
theorem DN.of{w:World}{bv bm bo:Nat}{bk:Nat->Nat}{lo:Nat}{q:Bool}{dW:List Nat}{V V':aS}{cl:List Value}{l:List Nat}{ds:List dY}{Ts:List (List (Int × Tr))}{B:List (Int × Tr)}(R:dS w bv bm bo V')(h:iw w bv bk lo q (V.lm.ac.map Prod.snd) V'.lg.nt dW V'.lm cl)(harr:AO V' cl)(hds:V'.lg.nt=ds)(u:jO bk (KK l) ds Ts V V')(hl:l.length<1000)(hp:0<ds.length)(hn:ds.length<=100000)(hB:Ts.flatten=B):DN bv bm bo V V' B lo w:=by
 refine⟨⟨bk,ds,Ts,cl⟩,l,u,hl,⟨hp,hn⟩,hB,h.ac,hds,⟨by rw[<-hds];exact h.len,fun i d c hd hc=>(h.nH i d c (by rw[hds];exact hd) hc).uP,h.off R harr⟩,fun c hc x hx=>(h.cap hc hx).1⟩
def kK:List dY->List (Int × Tr)
 | []=>[]
 | .iZ t :: ds=>(2,t) :: kK ds
 | _ :: ds=>kK ds
theorem iL:∀a b:List dY,kK (a++b)=kK a++kK b
 | [],b=>rfl
 | d :: a,b=>by
   cases d <;> simp only[List.cons_append,kK,iL a b]
theorem jO.lM{bk:Nat->Nat}{K:aS->Prop}{ds:List dY}{Ts:List (List (Int × Tr))}{V0 V1:aS}(h:jO bk K ds Ts V0 V1)(hT:∀d∈ds,d.sZ=false):Ts.flatten=kK ds:=by
 induction h with
 | nil V h=>rfl
 | @jD ds Ts V0 V V1 d T h hb hk ih =>
   rw[List.flatten_append,iL,ih (fun d hd=>hT d (List.mem_append_left _ hd))];congr 1;have hd:=hT d (by simp);cases d with
   | gp b o=>rw[hb.1];rfl
   | left b=>rw[hb.1];rfl
   | fC b p=>rw[hb.1];rfl
   | entered id=>rw[hb.1];rfl
   | di s=>rw[hb.1];rfl
   | iZ t=>rw[hb.1];rfl
   | jU tb=>simp[dY.sZ]at hd
   | iW tb p=>simp[dY.sZ]at hd
   | closed=>rw[hb.1];rfl
open Go.RowKit
theorem dA.acv{p:Nat->Nat}{V V':aS}{S S':RS}{N:Nat}(h:dA p V S N)(gw:GW V' (mN N))(hnb:V'.nb=V.nb)(hBs:∀j,(V'.B j).sym=(V.B j).sym)(hpl:∀j,(V'.B j).places=(V.B j).places)(hno:V'.no=V.no)(rH:V'.aW=V.aW)
 (hsy:S'.sy=S.sy) (hlen:S'.l.length=S.l.length) (hps:S'.places=S.places) (ht:S'.t=S.t) (hd:S'.day=S.day) (same:∀k,k<S.l.length->mW (V'.om (p k))=mW (ax S'.l k))
 (dN:∀k,k<S.l.length->(ax S'.l k).id=(ax S.l k).id/\(ax S'.l k).sym=(ax S.l k).sym/\(ax S'.l k).place=(ax S.l k).place/\(0<(ax S'.l k).aO->0<(ax S.l k).aO)/\(V'.om (p k)).place=(V.om (p k)).place)
 (htr:V'.lg.tr=V.lg.tr) (htp:V'.lg.tp=V.lg.tp) (hdy:V'.lg.day=V.lg.day) (hna:V'.lg.ud+V'.lg.na=V.lg.ud+V.lg.na):dA p V' S' N:=by
 refine⟨gw,by rw[hnb,hsy];exact h.nb,fun i hi=>by rw[hsy,hBs i];exact h.sym i (by omega),by rw[hno,hlen];exact h.no,fun k hk=>?_,fun id b hb=>?_,fun a b ha hb=>h.inj a b (by omega) (by omega),fun k hk=>same k (by omega),fun a b ha hb hs h1 h2=>?_,fun a b ha hb hab hs h1 h2=>?_,fun k hk h0 i hi hs=>?_,fun k hk h0=>?_,fun i hi=>?_,?_,by rw[htr,ht];exact h.tr,by rw[hdy,hd];exact h.day,by rw[htr];have:=h.yu;omega,by rw[htp];have:=h.DJ;omega,by rw[hna];have:=h.zX;omega,by rw[hno];exact h.gV,by rw[hnb];exact h.UJ,fun k hk=>by rw[(dN k (by omega)).1];exact h.rJ k (by omega)⟩
 ·rw[rH,(dN k (by omega)).1];exact h.aW k (by omega)
 ·rw[rH]at hb;obtain⟨k,hk,e1,e2⟩:=h.zY id b hb;exact⟨k,by omega,by rw[(dN k hk).1];exact e1,e2⟩
 ·obtain⟨_,a2,a3,a4,a5⟩:=dN a (by omega);obtain⟨_,b2,b3,b4,b5⟩:=dN b (by omega);rw[a5,b5,a3,b3];exact h.place a b (by omega) (by omega) (by rw[<-a2,<-b2];exact hs) (a4 h1) (b4 h2)
 ·obtain⟨_,a2,a3,a4,a5⟩:=dN a (by omega);obtain⟨_,b2,b3,b4,b5⟩:=dN b (by omega);rw[a3,b3];exact h.xy a b (by omega) (by omega) hab (by rw[<-a2,<-b2];exact hs) (a4 h1) (b4 h2)
 ·obtain⟨_,a2,a3,a4,a5⟩:=dN k (by omega);rw[a5,hpl i];exact h.O3 k (by omega) (a4 h0) i (by omega) (by rw[<-hBs i,hs,a2])
 ·obtain⟨_,a2,a3,a4,a5⟩:=dN k (by omega);rw[a3,hps];exact h.O4 k (by omega) (a4 h0)
 ·rw[hpl i];exact h.EU i (by omega)
 ·rw[hps];exact h.Rx
theorem PN{S:RS}{j:Nat}{q:Int}(hj:j<S.l.length)(o:iT):(gZ (S.uB j q).l o).isNone=(gZ S.l o).isNone:=by
 have nk:∀a,ax (S.uB j q).l a=if a=j then Hw (ax S.l j) q else ax S.l a:=fun a=>by
  simp only[RS.uB,RS.ik];exact fE hj a
 have hl:(S.uB j q).l.length=S.l.length:=by simp[RS.uB,RS.ik]
 have hg:∀a,lJ o (ax (S.uB j q).l a)=lJ o (ax S.l a):=fun a=>by
  rw[nk a];by_cases e:a=j
  ·rw[if_pos e,e];rfl
  ·rw[if_neg e]
 rw[Bool.eq_iff_iff,Option.isNone_iff_eq_none,Option.isNone_iff_eq_none];unfold gZ;rw[lD,lD,hl];constructor
 ·intro h k hk;rw[<-hg k];exact h k hk
 ·intro h k hk;rw[hg k];exact h k hk
theorem dA.aa6{p:Nat->Nat}{V:aS}{S:RS}{N:Nat}(h:dA p V S N){j i s t:Nat}{q:Int}{again:Bool}(hj:j<S.l.length)(hi:i<V.nb)(hs:s<2)(hst:t=1-s)(hsb:(V.om (p j)).sym=(V.B i).sym)(hside:(V.om (p j)).side=(t:Int)) :
 S.nH j q again=(again && (fD (V.om (p j)).kind && (dJ (V.B i) V.om (dm (V.om (p j))) s).isNone)):=by
 have e:=h.same j hj;obtain⟨e1,e2,e3,e4,e5,e6,e7,e8,e9,e10,e11,e12⟩:=fK e;have hc:=h.iE (o:=dm (ax S.l j)) hi hs hst (by show (ax S.l j).sym=_;rw[<-e3];exact hsb) (by show (ax S.l j).side=_;rw[<-e4];exact hside);unfold RS.nH;rw[PN hj,OZ e,e5];congr 2;rw[<-Option.not_isSome,<-Option.not_isSome,hc]
theorem dA.gm{p:Nat->Nat}{V V':aS}{S:RS}{N:Nat}(h:dA p V S N)(hN:N<3000000){j i s t:Nat}{q P:Int}{again:Bool}(hj:j<S.l.length)(hi:i<V.nb)(hs:s<2)(hst:t=1-s)(hsb:(V.om (p j)).sym=(V.B i).sym)(hside:(V.om (p j)).side=(t:Int))
 (hP:∀a,a<V.nb->(V.B a).places<=P) (hPS:S.places<=P) (hP2:P+1<=2 * (N:Int)) (hq:1<=q) (hq2:q<=(V.om (p j)).filled) (tb:Zu V (mN N) i s (p j) q again V') (lk:Zp V.lg V'.lg 3) :
 dA p V' (S.gm j q again) N/\(∀a,a<V'.nb->(V'.B a).places<=P+1)/\(S.gm j q again).places<=P+1/\(S.gm j q again).told=S.told/\(S.gm j q again).l.length=S.l.length:=by
 have hbk:=h.aa6 (q:=q) (again:=again) hj hi hs hst hsb hside;have es:=h.same j hj;obtain⟨e1,e2,e3,e4,e5,e6,e7,e8,e9,e10,e11,e12⟩:=fK es;obtain⟨l1,l2,l3,l4,l5⟩:=lk;have GL:∀a,a<S.l.length->a≠j->p a≠p j:=fun a ha e e2=>e (h.inj a j ha hj e2)
 have hpi:=h.EU i hi;have hps:=h.Rx;have hv:VL V (p j):=(h.vl _).2 ⟨j,hj,rfl⟩;have q1:=(h.gw.q _ hv).sum;have q2:=(h.gw.q _ hv).o0;have q3:=(h.gw.q _ hv).f0;have q4:=(h.gw.q _ hv).c0;have q5:=(h.gw.q _ hv).e0;have q6:=(h.gw.q _ hv).hi;have hmN:mN N<=1000000000000000:=by unfold mN;omega
 rcases tb.way with⟨hc,jK,hpl⟩ | ⟨ha,hr,hf,jK,hpl⟩
 ·have hb0:S.nH j q again=false:=by
   rw[hbk];rcases hc with hc | hc | hc
   ·rw[hc];rfl
   ·rw[hc];simp
   ·have:(dJ (V.B i) V.om (dm (V.om (p j))) s).isNone=false:=by rw[<-Option.not_isSome,hc];rfl
    rw[this];simp
  have hS:S.gm j q again=S.ik j { Hw (ax S.l j) q with bZ:=wrap64 ((ax S.l j).bZ+q) }:=by
   unfold RS.gm;rw[hb0];simp
  rw[hS];have nk:∀a,ax (S.ik j { Hw (ax S.l j) q with bZ:=wrap64 ((ax S.l j).bZ+q) }).l a=if a=j then { Hw (ax S.l j) q with bZ:=wrap64 ((ax S.l j).bZ+q) } else ax S.l a:=fun a=>by
   simp only[RS.ik];exact fE hj a
  refine⟨h.acv tb.gw tb.nb tb.lL hpl tb.no tb.aW rfl (by simp[RS.ik]) rfl rfl rfl (fun a ha=>?_) (fun a ha=>?_) l1 l2 l3 (by omega),fun a ha=>?_,?_,rfl,by simp[RS.ik]⟩
  ·rw[jK,nk a];by_cases e:a=j
   ·rw[e,ai,if_pos rfl];show fF (mW (V.om (p j))) q=fF (mW (ax S.l j)) q;rw[es]
   ·rw[ah _ _ (GL a ha e),if_neg e];exact h.same a ha
  ·rw[jK,nk a];by_cases e:a=j
   ·rw[e,ai,if_pos rfl];exact⟨rfl,rfl,rfl,fun h=>h,rfl⟩
   ·rw[ah _ _ (GL a ha e),if_neg e];exact⟨rfl,rfl,rfl,fun h=>h,rfl⟩
  ·rw[hpl a];have:=hP a (by rw[<-tb.nb];exact ha);omega
  ·show S.places<=_;omega
 ·have hb1:S.nH j q again=true:=by
   rw[hbk,ha,hr,hf];rfl
  have hS:S.gm j q again=(S.uB j q).qW j q:=by
   unfold RS.gm;rw[hb1];simp
  rw[hS];have wb:wrap64 ((V.B i).places+1)=(V.B i).places+1:=aT (by omega) (by omega);have ws:wrap64 (S.places+1)=S.places+1:=aT (by omega) (by omega);have hu:ax (S.uB j q).l j=Hw (ax S.l j) q:=by simp only[RS.uB,RS.ik];rw[fE hj,if_pos rfl]
  have hl:((S.uB j q).qW j q).l.length=S.l.length:=by simp[RS.qW,RS.uB,RS.ik]
  have nk:∀a,ax ((S.uB j q).qW j q).l a=if a=j then { Hw (ax S.l j) q with place:=S.places+1,aO:=wrap64 ((ax S.l j).aO+q) } else ax S.l a:=fun a=>by
   simp only[RS.qW];rw[hu];simp only[RS.uB,RS.ik,List.set_set];rw[fE hj a,ws]
   rfl
  have Z4:((S.uB j q).qW j q).places=S.places+1:=by
   show wrap64 (S.places+1)=_;exact ws
  have omf:∀a,a<S.l.length->a≠j->V'.om (p a)=V.om (p a):=fun a ha e=>by rw[jK];exact tK V i (p j) q (GL a ha e)
  have omj:V'.om (p j)={ fM (V.om (p j)) q with place:=(V.B i).places+1 }:=by rw[jK,dZ,wb]
  have JH:∀k,k<S.l.length->k≠j->0<(ax S.l k).aO->(ax S.l k).sym=(V.B i).sym->(V.om (p k)).place<=(V.B i).places/\(ax S.l k).place<=S.places:=fun k hk e h0 hsy=>⟨h.O3 k hk h0 i hi hsy.symm,h.O4 k hk h0⟩
  have VD:(ax S.l j).sym=(V.B i).sym:=by rw[<-e3];exact hsb
  refine⟨⟨tb.gw,by rw[tb.nb];exact h.nb,fun a ha=>by rw[tb.lL a];exact h.sym a (by rw[<-tb.nb];exact ha),by rw[tb.no,hl];exact h.no,fun k hk=>?_,fun id b hb=>?_,fun a b ha hb=>h.inj a b (by omega) (by omega),fun k hk=>?_,fun a b ha hb hsy h1 h2=>?_,fun a b ha hb hab hsy h1 h2=>?_,fun k hk h0 a ha hsy=>?_,fun k hk h0=>?_,fun a ha=>?_,?_,by rw[l1];exact h.tr,by rw[l3];exact h.day,by rw[l1];exact h.yu,by rw[l2];exact h.DJ,by have:=h.zX;omega,by rw[tb.no];exact h.gV,by rw[tb.nb];exact h.UJ,fun k hk=>?_⟩,fun a ha=>?_,by rw[Z4];omega,rfl,hl⟩
  ·rw[hl]at hk;rw[tb.aW,nk k];by_cases e:k=j
   ·rw[if_pos e,e];exact h.aW j hj
   ·rw[if_neg e];exact h.aW k hk
  ·rw[tb.aW]at hb;obtain⟨k,hk,x1,x2⟩:=h.zY id b hb;refine⟨k,by rw[hl];exact hk,?_,x2⟩;rw[nk k];by_cases e:k=j
   ·rw[if_pos e];rw[e]at x1;exact x1
   ·rw[if_neg e];exact x1
  ·rw[hl]at hk;rw[nk k];by_cases e:k=j
   ·rw[if_pos e,e,omj];show fM (mW (V.om (p j))) q=fM (mW (ax S.l j)) q;rw[es]
   ·rw[if_neg e,omf k hk e];exact h.same k hk
  ·rw[hl]at ha hb;rw[nk a]at hsy h1 ⊢;rw[nk b]at hsy h2 ⊢;by_cases ea:a=j <;> by_cases eb:b=j
   ·rw[ea,eb];exact⟨fun h=>by omega,fun h=>by omega⟩
   ·rw[if_neg eb]at hsy h2 ⊢;rw[if_pos ea]at hsy ⊢;obtain⟨o1,o2⟩:=JH b hb eb h2 (by rw[<-hsy];exact VD);rw[ea,omj,omf b hb eb];show (V.B i).places+1<(V.om (p b)).place↔S.places+1<(ax S.l b).place;omega
   ·rw[if_neg ea]at hsy h1 ⊢;rw[if_pos eb]at hsy ⊢;obtain⟨o1,o2⟩:=JH a ha ea h1 (by rw[hsy];exact VD);rw[eb,omj,omf a ha ea];show (V.om (p a)).place<(V.B i).places+1↔(ax S.l a).place<S.places+1;omega
   ·rw[if_neg ea]at hsy h1 ⊢;rw[if_neg eb]at hsy h2 ⊢;rw[omf a ha ea,omf b hb eb];exact h.place a b ha hb hsy h1 h2
  ·rw[hl]at ha hb;rw[nk a]at hsy h1 ⊢;rw[nk b]at hsy h2 ⊢;by_cases ea:a=j <;> by_cases eb:b=j
   ·omega
   ·rw[if_neg eb]at hsy h2 ⊢;rw[if_pos ea]at hsy ⊢;obtain⟨o1,o2⟩:=JH b hb eb h2 (by rw[<-hsy];exact VD);show S.places+1≠(ax S.l b).place;omega
   ·rw[if_neg ea]at hsy h1 ⊢;rw[if_pos eb]at hsy ⊢;obtain⟨o1,o2⟩:=JH a ha ea h1 (by rw[hsy];exact VD);show (ax S.l a).place≠S.places+1;omega
   ·rw[if_neg ea]at hsy h1 ⊢;rw[if_neg eb]at hsy h2 ⊢;exact h.xy a b ha hb hab hsy h1 h2
  ·rw[hl]at hk;rw[tb.nb]at ha;rw[tb.lL a]at hsy;rw[nk k]at hsy h0;rw[hpl a];by_cases e:k=j
   ·rw[if_pos e]at hsy;have ej:a=i:=h.gw.lW a i ha hi (by rw[hsy];exact VD);rw[e,omj,if_pos ej,wb];show (V.B i).places+1<=(V.B i).places+1;omega
   ·rw[if_neg e]at hsy h0;rw[omf k hk e];have:=h.O3 k hk h0 a ha hsy;split
    ·rename_i hx;rw[hx]at this;rw[wb];omega
    ·exact this
  ·rw[hl]at hk;rw[nk k]at h0 ⊢;rw[Z4];by_cases e:k=j
   ·rw[if_pos e];show S.places+1<=_;omega
   ·rw[if_neg e]at h0 ⊢;have:=h.O4 k hk h0;omega
  ·rw[tb.nb]at ha;rw[hpl a];have:=h.EU a ha;have:=hP i hi;split
   ·rw[wb];omega
   ·omega
  ·rw[Z4];omega
  ·rw[hl]at hk;rw[nk k];by_cases e:k=j
   ·rw[if_pos e];exact h.rJ j hj
   ·rw[if_neg e];exact h.rJ k hk
  ·rw[tb.nb]at ha;rw[hpl a];have:=hP a ha;have:=hP i hi;split
   ·rw[wb];omega
   ·omega
theorem Zu.fl{V V':aS}{M:Int}{i s b:Nat}{q id:Int}{again:Bool}{hl:List Tr}{ex Ez:Int->Int}(tb:Zu V M i s b q again V')(f:FL V.om V.aW hl ex)(hid:V.aW id=some b)(hM:M<=1000000000000000)(hQ:Qo M (V.om b))(hq:1<=q)(hq2:q<=(V.om b).filled)(e1:Ez id=ex id-q)(e2:∀j,j≠id->Ez j=ex j):FL V'.om V'.aW hl Ez:=by
 rw[tb.aW];rcases tb.way with⟨_,jK,_⟩ | ⟨_,_,_,jK,_⟩
 ·rw[jK];exact f.nH hid (fun x h=>ah _ _ h) (by rw[ai];rfl) (by rw[ai];rfl) (by rw[ai];rfl) (by rw[ai];exact (hQ.fF hM (by omega) hq2).2) e1 e2
 ·rw[jK];exact f.nH hid (fun x h=>tK V i b q h) (by rw[dZ];rfl) (by rw[dZ];rfl) (by rw[dZ];rfl) (by rw[dZ];exact (hQ.fM hM (by omega) hq2 0).2.1) e1 e2
attribute [local go_sem ↓] Go.wp_at_zero Go.wp_at_succ
theorem fU.acQ{w:World}{bv bm bo n g cap:Nat}{G:Lg}{m:Lm}{A:List (Value × List Value)}{a:Value × List Value}{QB:List dY}(h:bG w bv bm bo G m)(hA:m.ac=A++[a])(hn:A.length=n)(hav:m.av=.slice (some ⟨g,0,none⟩) (n+1) cap)(hnt:∀a,A.getLast?=some a->a.2.length=QB.length) :
 bG ((w.setCell ⟨g,n,none⟩ (.slice none 0 0)).setCell ⟨bv,5,none⟩ (.slice (some ⟨g,0,none⟩) n cap)) bv bm bo { G with na:=n,nt:=QB,ud:=G.ud+1 } { m with av:=.slice (some ⟨g,0,none⟩) n cap,ac:=A } /\
  aj (fun b=>b=bv\/m.av.ownBlock=some b) w ((w.setCell ⟨g,n,none⟩ (.slice none 0 0)).setCell ⟨bv,5,none⟩ (.slice (some ⟨g,0,none⟩) n cap)) /\
  (∀b,Lm.F { m with av:=.slice (some ⟨g,0,none⟩) n cap,ac:=A } b->m.F b):=by
 have hob:m.av.ownBlock=some g:=by rw[hav];rfl
 have k:aj (fun b=>b=bv\/m.av.ownBlock=some b) w ((w.setCell ⟨g,n,none⟩ (.slice none 0 0)).setCell ⟨bv,5,none⟩ (.slice (some ⟨g,0,none⟩) n cap)) :=
  ((aj.refl (fun b=>b=bv\/m.av.ownBlock=some b) w).setCell (p:=⟨g,n,none⟩) (.inl (.inr hob)) _).setCell (p:=⟨bv,5,none⟩) (.inl (.inl rfl)) _
 have ht:=h.aP.act.row;have yE:m.ac.length=n+1:=by rw[hA,List.length_append,hn];rfl
 have hna:G.na=n+1:=by rw[<-h.aP.act.len];exact yE
 rw[hav,yE]at ht;obtain⟨hl0,h0⟩:=ht;obtain⟨cur,hb,h1,h2,h3,h4⟩:∃cur,aA w g cur 109/\n+1<=cap/\cap<=maxLen/\cur.size=cap * 1/\cur.toList.take ((n+1) * 1)=m.ac.map Prod.fst:=by
  rcases h0 with⟨e,_⟩ | ⟨g',cap',cur,e,_,hb,h1,h2,h3,h4⟩
  ·simp at e
  ·simp only[Value.slice.injEq,Option.some.injEq,Addr.mk.injEq]at e;obtain⟨⟨e1,_⟩,_,e2⟩:=e;subst e1 e2;exact⟨cur,hb,h1,h2,h3,h4⟩
 have hne:g≠bv:=aA.ne hb h.dC (by decide);have no:∀{b c t},aA w b c t->t≠100->t≠109->¬(b=bv\/m.av.ownBlock=some b):=by
  rintro b c t hc e1 e2 (e | e)
  ·exact aA.ne hc h.dC e1 e
  ·rw[hob]at e;obtain rfl:=Option.some.inj e;exact aA.ne hc hb e2 rfl
 refine⟨⟨((h.dC.other (fun e=>hne e.symm) _).set 5 _),?_⟩,k,?_⟩
 ·refine⟨aI h.aP.jJ k (fun b e=>?_),aI h.aP.iO k (fun b e=>?_),h.aP.len,fun i b y hi hy=>?_,h.aP.nodup,⟨?_,fun x hx=>aI (h.aP.act.own x (by rw[hA];exact List.mem_append_left _ hx)) k (fun b e=>?_),?_,hn,hnt⟩,aI h.aP.kV k (fun b e=>?_),?_⟩
  ·obtain⟨cs,hc⟩:=bK h.aP.jJ e;exact no hc (by decide) (by decide)
  ·obtain⟨cs,hc⟩:=bK h.aP.iO e;exact no hc (by decide) (by decide)
  ·have hc:=h.aP.aF i b y hi hy;exact k.aF hc (no hc (by decide) (by decide))
  ·refine⟨by simp,.inr ⟨g,cap,cur.setIfInBounds n (.slice none 0 0),?_,Nat.zero_le _,(hb.set n _).other hne _,by simp only[hn];omega,h2,by simpa using h3,?_⟩⟩
   ·simp only[hn]
   ·simp only[hn,Nat.mul_one]at h4 ⊢;have e:(cur.setIfInBounds n (.slice none 0 0)).toList=cur.toList.set n (.slice none 0 0):=by simp
    have hm:A.map Prod.fst=(m.ac.map Prod.fst).dropLast:=by rw[hA];simp
    rw[e,List.take_set,hm,<-h4];have hcl:cur.toList.length=cap:=by simpa using h3
    rw[List.set_eq_of_length_le (by simp;exact Nat.min_le_left _ _),List.dropLast_eq_take,List.take_take,List.length_take,hcl,show min (min (n+1) cap-1) (n+1)=n by omega]
  ·obtain⟨cs,hc⟩:=bK (h.aP.act.own x (by rw[hA];exact List.mem_append_left _ hx)) e;exact no hc (by decide) (by decide)
  ·have:=h.aP.act.dis;rw[hA,List.filterMap_append]at this;exact (List.nodup_append.1 this).1
  ·obtain⟨cs,hc⟩:=bK h.aP.kV e;exact no hc (by decide) (by decide)
  ·have:=h.aP.jb.1;refine⟨?_,h.aP.jb.2⟩;show m.jn.length<=300 * (G.ud+1+n);rw[hna]at this;omega
 ·rintro b (e | e | e | e | ⟨x,hx,e⟩)
  ·exact .inl e
  ·exact .inr (.inl e)
  ·exact lN e
  ·exact jZ (by rw[hob];exact e)
  ·exact .inr (.inr (.inr (.inr ⟨x,by rw[hA];exact List.mem_append_left _ hx,e⟩)))
theorem DI(Ts:List (List (Int × Tr))):∀k,k<=Ts.length->uz (fun i=>Ts.getD i []) Ts.length k=(Ts.drop (Ts.length-k)).reverse.flatten
 | 0,_=>by simp[uz]
 | k+1,hk=>by
   have ih:=DI Ts k (by omega);show uz _ _ k++Ts.getD (Ts.length-1-k) []=_;rw[ih];have e1:Ts.length-(k+1)=Ts.length-1-k:=by omega
   have hlt:Ts.length-1-k<Ts.length:=by omega
   rw[e1,List.drop_eq_getElem_cons hlt,List.reverse_cons,List.flatten_append,show Ts.length-1-k+1=Ts.length-k by omega];congr 1;rw[List.getD_eq_getElem?_getD,List.getElem?_eq_getElem hlt];simp
theorem I4:∀{Ts:List (List (Int × Tr))},(∀T∈Ts,T.length<=1)->Ts.reverse.flatten=Ts.flatten.reverse
 | [],_=>rfl
 | T :: Ts,h=>by
   rw[List.reverse_cons,List.flatten_append,I4 (fun x hx=>h x (by simp[hx])),show ([T]:List (List (Int × Tr))).flatten=T by simp,List.flatten_cons,List.reverse_append];congr 1;have h1:=h T (by simp)
   match T,h1 with
   | [],_=>rfl
   | [x],_=>rfl
   | x :: y :: T,h1=>simp at h1
def WT(bv bm bo:Nat)(V V0:aS)(B:List (Int × Tr))(cls:List (List Value))(QB:List dY)(w w':World):Prop :=
 ∃V',dS w' bv bm bo V'/\HS V'/\dQ V0 V'/\V'.lg.tp=(V.lg.nC B.reverse).tp/\V'.lg.na+1=V.lg.na/\(V'.lg.ud=V.lg.ud+2/\V'.lg.js=V.lg.js++[⟨#[117,110,100,111]⟩])/\V'.lg.nt=QB/\V'.lm.ac.map Prod.snd=cls/\aj (dO bv bm bo V) w w'/\∀x,dO bv bm bo V' x->dO bv bm bo V x\/w.heap.size<=x
theorem dS.sF{w w':World}{bv bm bo:Nat}{V:aS}{jv:Value}{jn:List Value}{l:ByteArray}(R:dS w bv bm bo V)(hL:fU w' bv bm bo (V.lg.sF l) { V.lm with jv:=jv,jn:=jn } (V.lg.ud+V.lg.na+1))(hF:∀b,jv.ownBlock=some b->V.lm.jv.ownBlock=some b\/w.heap.size<=b)(k:aj (fun b=>b=bv\/V.lm.jv.ownBlock=some b) w w') :
 dS w' bv bm bo { V with lg:={ V.lg.sF l with ud:=V.lg.ud+1 },lm:={ V.lm with jv:=jv,jn:=jn } }/\aj (dO bv bm bo V) w w'/\∀x,dO bv bm bo { V with lg:={ V.lg.sF l with ud:=V.lg.ud+1 },lm:={ V.lm with jv:=jv,jn:=jn } } x->dO bv bm bo V x\/w.heap.size<=x:=by
 have hl:bG w' bv bm bo { V.lg.sF l with ud:=V.lg.ud+1 } { V.lm with jv:=jv,jn:=jn }:=by
  have e:V.lg.ud+1+V.lg.na=V.lg.ud+V.lg.na+1:=by omega
  refine⟨hL.dC,hL.aP.jJ,hL.aP.iO,hL.aP.len,hL.aP.aF,hL.aP.nodup,hL.aP.act,hL.aP.kV,?_⟩;refine⟨?_,hL.aP.jb.2⟩;show jn.length<=300 * (V.lg.ud+1+V.lg.na);rw[e];exact hL.aP.jb.1
 refine⟨R.jM hl (k.mono (fun x h=>h.imp_right (fun h=>.inr (.inl (.inr h))))),k.mono (fun x h=>?_),fun x hx=>?_⟩
 ·rcases h with h | h
  ·exact .inl h
  ·exact ol6 (.inr h)
 ·rcases hx with h | h | h | h | h | h
  ·exact .inl (.inl h)
  ·exact .inl (.inr (.inl h))
  ·exact .inl (lN h)
  ·exact .inl (jZ h)
  ·exact .inl (qm h)
  ·rcases h with h | (h | h) | h | h
   ·exact .inl (ol5 h)
   ·exact .inl (ol6 (.inl h))
   ·exact (hF x h).imp_left (fun h=>ol6 (.inr h))
   ·exact .inl (ol7 h)
   ·exact .inl (or8 h)
end Go.Proofs.YtigaphnafnpfnaaGreatDoor
