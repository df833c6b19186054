import Derived.Test.YtigaphnafnpfnaaGreatDoorQNV39
import Derived.Test.YtigaphnafnpfnaaGreatDoorQNV16
set_option linter.unusedVariables false
set_option linter.unusedSimpArgs false
namespace Go.Proofs.YtigaphnafnpfnaaGreatDoor
open Go.RowKit Go.Maps Go.Shelf
open Classical in
noncomputable def IC(V:aS)(x:Nat):Nat:=if h:∃i,i<V.nb/\(V.om x).sym=(V.B i).sym then V.bk h.choose else 0
theorem AV{V:aS}{M:Int}(g:GW V M){i x:Nat}(hi:i<V.nb)(hx:(V.om x).sym=(V.B i).sym):IC V x=V.bk i:=by
 have h:∃i,i<V.nb/\(V.om x).sym=(V.B i).sym:=⟨i,hi,hx⟩;unfold IC;rw[dif_pos h];obtain⟨h1,h2⟩:=h.choose_spec;rw[g.lW _ i h1 hi (h2.symm.trans hx)]
theorem uH{V:aS}{M:Int}(g:GW V M){i y l:Nat}(hi:i<V.nb)(hy:y<2)(hl:l<(V.B i).n y):IC V ((V.B i).h y l)=V.bk i :=
 AV g hi (((g.gb i hi).mem y hy _).1 ⟨l,hl,rfl⟩).2.1
section
variable {w w' : World} {bv bm bo : Nat} {V : aS} {M : Int} {l : List Nat} {bk : Nat -> Nat} {bM : Lm} {cl : List Value} {q : Bool}
theorem CO{V':aS}{old:List (List Value)}{nt:List dY}{dW:List Nat}{m:Lm}(R:dS w bv bm bo V)(cu:iw w' bv bk w.heap.size q old nt dW m cl)(hnb:V'.nb=V.nb)(hsl:∀j,j<V.nb->∀y,y<2->(V'.B j).sl y=(V.B j).sl y):AO V' cl:=fun j hj y hy a ha c hc x hx e=>by
 subst e;have h1:=(cu.cap hc hx).1;rw[hsl j (by omega) y hy]at ha;have:=((R.aY j (by omega)).side y hy).lt ha;omega
theorem SV{s:ByteArray}{b:Nat}(R:dS w bv bm bo V)(hl:∀x,VL V x->x∈l)(hll:l.length<1000)(htr:V.lg.tr.length<1000000000)(hs:s.size<=maxLen)(R':dS w' bv bm bo (V.di s b bM))(cu:iw w' bv bk w.heap.size q (V.lm.ac.map Prod.snd) [.di s] V.lm.tb bM cl):DN bv bm bo V (V.di s b bM) [] w.heap.size w':=by
 refine DN.of (ds:=[.di s]) (Ts:=[[]]) R' cu (fun j hj y hy a ha c hc x hx e=>?_) rfl (VQ ⟨hl,htr⟩ hs ⟨rfl,fun _ _=>rfl,fun _ _=>rfl,fun _ _=>rfl,fun _ _ _ _ _=>Iff.rfl,rfl,rfl,fun _ _=>rfl,rfl,rfl,cu.tb⟩) hll (by simp) (by simp) rfl;subst e;have h1:=(cu.cap hc hx).1;by_cases e:j<V.nb
 ·have e1:(V.di s b bM).B j=V.B j:=ah _ _ (by omega);rw[e1]at ha;have:=((R.aY j e).side y hy).lt ha;omega
 ·have e2:j=V.nb:=by have:(V.di s b bM).nb=V.nb+1:=rfl;omega
  subst e2;have e1:(V.di s b bM).B V.nb=lS s:=ai _ _ _;rw[e1]at ha;exact xR s y x (.inl ha)
theorem Md{i s k:Nat}(R:dS w bv bm bo V)(g:GW V M)(hl:∀x,VL V x->x∈l)(hll:l.length<1000)(htr:V.lg.tr.length<1000000000)(hi:i<V.nb)(hs:s<2)(hk:k<(V.B i).n s)(hbk:bk ((V.B i).h s k)=V.bk i)
 (R':dS w' bv bm bo (V.lu i ((V.B i).leave V.om s k) (aQ V.om ((V.B i).h s k) (gz (V.om ((V.B i).h s k)))) (V.lg.begun.aX [.left ((V.B i).h s k),.gp ((V.B i).h s k) (V.om ((V.B i).h s k))]) bM))
 (cu:iw w' bv bk w.heap.size q (V.lm.ac.map Prod.snd) (V.lg.begun.aX [.left ((V.B i).h s k),.gp ((V.B i).h s k) (V.om ((V.B i).h s k))]).nt V.lm.tb bM cl) :
 DN bv bm bo V (V.lu i ((V.B i).leave V.om s k) (aQ V.om ((V.B i).h s k) (gz (V.om ((V.B i).h s k)))) (V.lg.begun.aX [.left ((V.B i).h s k),.gp ((V.B i).h s k) (V.om ((V.B i).h s k))]) bM) [] w.heap.size w':=by
 have hvl:=(((g.gb i hi).mem s hs _).1 ⟨k,hk,rfl⟩).1;exact DN.of (ds:=[.left ((V.B i).h s k),.gp ((V.B i).h s k) (V.om ((V.B i).h s k))]) (Ts:=[[],[]]) R' cu (CO R cu rfl (fun j hj y hy=>yx (V:=V) (i:=i) (B':=(V.B i).leave V.om s k) (fun B=>B.sl y) rfl j)) rfl
  (Oe g ⟨hl,htr⟩ hi hs hk hbk hvl ⟨rfl,fun _ _=>rfl,fun _ _=>rfl,fun _ _=>rfl,fun _ _ _ _ _=>Iff.rfl,rfl,rfl,fun _ _=>rfl,rfl,rfl,cu.tb⟩) hll (by simp) (by simp) rfl
theorem SQ{b i:Nat}{af aK:Int}(R:dS w bv bm bo V)(hl:∀x,VL V x->x∈l)(hll:l.length<1000)(htr:V.lg.tr.length<1000000000)(hb:VL V b)(hpr:af=(V.om b).af)
 (R':dS w' bv bm bo (V.lu i (V.B i) (aQ V.om b (dV (V.om b) af aK)) (V.lg.begun.aX [.gp b (V.om b)]) bM))
 (cu:iw w' bv bk w.heap.size q (V.lm.ac.map Prod.snd) (V.lg.begun.aX [.gp b (V.om b)]).nt V.lm.tb bM cl) :
 DN bv bm bo V (V.lu i (V.B i) (aQ V.om b (dV (V.om b) af aK)) (V.lg.begun.aX [.gp b (V.om b)]) bM) [] w.heap.size w':=by
 have eB:aQ V.B i (V.B i)=V.B:=Ld _ _;exact DN.of (ds:=[.gp b (V.om b)]) (Ts:=[[]]) R' cu (CO R cu rfl (fun j hj y hy=>by show (aQ V.B i (V.B i) j).sl y=_;rw[eB])) rfl
  (VP ⟨hl,htr⟩ hb hpr ⟨rfl,fun _ _=>rfl,fun j _=>by show (aQ V.B i (V.B i) j).sym=_;rw[eB],fun j _=>by show (aQ V.B i (V.B i) j).places=_;rw[eB],fun j _ y _ x=>by show Mem ((aQ V.B i (V.B i) j).n y) ((aQ V.B i (V.B i) j).h y) x↔_;rw[eB],rfl,rfl,fun _ _=>rfl,rfl,rfl,cu.tb⟩) hll (by simp) (by simp) rfl
theorem IW{k tb:Nat}{x:Tg}{af:Int}(R:dS w bv bm bo V)(hl:∀x,VL V x->x∈l)(hll:l.length<1000)(htr:V.lg.tr.length<1000000000)(hx:V.lg.tr[k]?=some x)(htb:V.lm.tb[k]?=some tb)
 (R':dS w' bv bm bo { V with lg:=V.lg.mX k tb x af,lm:=bM }) (cu:iw w' bv bk w.heap.size q (V.lm.ac.map Prod.snd) (V.lg.mX k tb x af).nt V.lm.tb bM cl):DN bv bm bo V { V with lg:=V.lg.mX k tb x af,lm:=bM } [(3,x.t)] w.heap.size w' :=
 DN.of (ds:=[.iW tb x.t.af]) (Ts:=[[(3,x.t)]]) R' cu (CO R cu rfl (fun j hj y hy=>rfl)) rfl (La ⟨hl,htr⟩ hx htb ⟨rfl,fun _ _=>rfl,fun _ _=>rfl,fun _ _=>rfl,fun _ _ _ _ _=>Iff.rfl,rfl,rfl,fun _ _=>rfl,rfl,rfl,cu.tb⟩) hll (by simp) (by simp) rfl
theorem Ph{V':aS}{old:List (List Value)}{nt:List dY}{dW:List Nat}{m:Lm}{i t oc g cap':Nat}{st:MS}(R:dS w bv bm bo V)(hi:i<V.nb)(cu:iw w' bv bk w.heap.size q old nt dW m cl)(hnb:V'.nb=V.nb)(hB:∀j,V'.B j=aQ V.B i (eu oc t g cap' st) j)(hsl:st.B.sl=(V.B i).sl)(hg:dB (st.om oc)=true->∀c∈cl,∀x,yA c x->x≠g):AO V' cl:=fun j hj y hy a ha c hc x hx e=>by
 subst e;have h1:=(cu.cap hc hx).1;have hj':j<V.nb:=by omega
 rw[hB j]at ha;have old':ig ((V.B j).sl y)=some x->False:=fun ha=>by
  have:=((R.aY j hj').side y hy).lt ha;omega
 by_cases e:j=i
 ·subst e;rw[ai]at ha;unfold eu at ha;by_cases hw:dB (st.om oc)=true
  ·rw[if_pos hw]at ha;by_cases e2:y=t
   ·subst e2;simp only[Bk.rest,ai,ig,Option.some.injEq]at ha;exact hg hw c hc x hx ha.symm
   ·simp only[Bk.rest,ah _ _ e2,hsl]at ha;exact old' ha
  ·rw[if_neg hw,hsl]at ha;exact old' ha
 ·rw[ah _ _ e]at ha;exact old' ha
end
def TN(n0:Nat)(G:Lg):Prop:=n0<=G.tp.length/\kK G.nt=(G.tp.drop n0).map (fun r=>(2,r.t))/\∀r∈G.tp.drop n0,r.kind=1
theorem TN.aX{n0:Nat}{G:Lg}(h:TN n0 G){ds:List dY}(hd:kK ds=[]):TN n0 (G.aX ds) :=
 ⟨h.1,by show kK (G.nt++ds)=_;rw[iL,hd,List.append_nil];exact h.2.1,h.2.2⟩
theorem TN.bF{n0 oc s:Nat}{st:MS}(h:TN n0 st.lg):TN n0 (Go.Proofs.YtigaphnafnpfnaaGreatDoor.bF oc s st).lg:=by
 unfold Go.Proofs.YtigaphnafnpfnaaGreatDoor.bF;split
 ·exact h.aX rfl
 ·have h':TN n0 (dn st.lg st.om oc (st.B.h s 0)):=by
   unfold dn;split
   ·exact (h.aX rfl).aX rfl
   ·exact h.aX rfl
  generalize dn st.lg st.om oc (st.B.h s 0)=G at h';generalize iY st.B st.om oc (st.B.h s 0)=t;have e:(G.tp++[(⟨(G.tp.length:Int)+1,1,G.iP t⟩:Rc)]).drop n0=G.tp.drop n0++[⟨(G.tp.length:Int)+1,1,G.iP t⟩]:=List.drop_append_of_le_length h'.1;refine⟨?_,?_,fun r hr=>?_⟩
  ·show n0<=(G.tp++[_]).length;rw[List.length_append];have:=h'.1;omega
  ·show kK (G.nt++[.iZ (G.iP t)])=((G.tp++[(⟨(G.tp.length:Int)+1,1,G.iP t⟩:Rc)]).drop n0).map _;rw[e,iL,h'.2.1,List.map_append];rfl
  ·have hr':r∈(G.tp++[(⟨(G.tp.length:Int)+1,1,G.iP t⟩:Rc)]).drop n0:=hr;rw[e]at hr';rcases List.mem_append.1 hr' with hr' | hr'
   ·exact h'.2.2 r hr'
   ·rw[List.mem_singleton.1 hr']
theorem TN.match{n0 oc s:Nat}:∀(f:Nat) (st:MS),TN n0 st.lg->TN n0 (aZ oc s f st).lg
 | 0,st,h=>h
 | f+1,st,h=>by
   rw[aZ];split
   ·exact h
   ·exact TN.match f _ h.bF
theorem TN.SK{n0 oc s:Nat}{st:MS}(h:TN n0 st.lg):TN n0 (iC oc (mF oc s st)):=by
 have:=TN.match (oc:=oc) (s:=s) (mu oc s st) st h;exact TN.aX this (by split <;> rfl)
section
variable {w w' : World} {bv bm bo : Nat} {V : aS} {M : Int} {l : List Nat} {bk : Nat -> Nat} {bM : Lm} {cl : List Value}
theorem IQ{st:MS}{oc s:Nat}{ext:List Nat}{G:Lg}(R:dS w bv bm bo V)(hl':bM.tb.length=(iC oc (mF oc s st)).tr.length)(htb:bM.tb=V.lm.tb++ext):ext.length+V.lg.tr.length=(mF oc s st).lg.tr.length:=by
 have h1:=R.aP.aP.len;rw[htb,List.length_append]at hl';rw[<-tY oc (mF oc s st)];omega
theorem SN{i s t k0 g cap' b:Nat}{af aK:Int}{ext:List Nat}(R:dS w bv bm bo V)(gw:GW V M)(hl:∀x,VL V x->x∈l)(hll:l.length<1000)(hi:i<V.nb)(h2:s<2)(ht:t<2)(hst:s≠t)(hk0:k0<(V.B i).n t)(hkb:(V.B i).h t k0=b)(hn:(V.B i).n s<=1000)
 (iv:sV b s ⟨(V.B i).leave V.om t k0,aQ V.om b (dV (V.om b) af aK),V.lg.dI b (V.om b)⟩)
 (htr:(mF b s ⟨(V.B i).leave V.om t k0,aQ V.om b (dV (V.om b) af aK),V.lg.dI b (V.om b)⟩).lg.tr.length+1<1000000000)
 (hbk:∀u,u<2->∀k,k<(V.B i).n u->bk ((V.B i).h u k)=V.bk i) (h0:0<=(V.B i).places) (h1:(V.B i).places<=1000000000000)
 (R':dS w' bv bm bo (V.lu i (eu b t g cap' (mF b s ⟨(V.B i).leave V.om t k0,aQ V.om b (dV (V.om b) af aK),V.lg.dI b (V.om b)⟩)) (aH b (mF b s ⟨(V.B i).leave V.om t k0,aQ V.om b (dV (V.om b) af aK),V.lg.dI b (V.om b)⟩)) (iC b (mF b s ⟨(V.B i).leave V.om t k0,aQ V.om b (dV (V.om b) af aK),V.lg.dI b (V.om b)⟩)) bM))
 (cu:iw w' bv bk w.heap.size false (V.lm.ac.map Prod.snd) (iC b (mF b s ⟨(V.B i).leave V.om t k0,aQ V.om b (dV (V.om b) af aK),V.lg.dI b (V.om b)⟩)).nt (V.lm.tb++ext) bM cl)
 (hg:dB ((mF b s ⟨(V.B i).leave V.om t k0,aQ V.om b (dV (V.om b) af aK),V.lg.dI b (V.om b)⟩).om b)=true->∀c∈cl,∀x,yA c x->x≠g) :
 ∀V',V'=V.lu i (eu b t g cap' (mF b s ⟨(V.B i).leave V.om t k0,aQ V.om b (dV (V.om b) af aK),V.lg.dI b (V.om b)⟩)) (aH b (mF b s ⟨(V.B i).leave V.om t k0,aQ V.om b (dV (V.om b) af aK),V.lg.dI b (V.om b)⟩)) (iC b (mF b s ⟨(V.B i).leave V.om t k0,aQ V.om b (dV (V.om b) af aK),V.lg.dI b (V.om b)⟩)) bM->DN bv bm bo V V' (kK V'.lg.nt) w.heap.size w'/\TN V.lg.tp.length V'.lg:=by
 subst hkb;intro V' hV';have hxl:=IQ (G:=V.lg) R R'.aP.aP.len cu.tb;have hfr:=jy ((V.B i).h t k0) s (mu ((V.B i).h t k0) s ⟨(V.B i).leave V.om t k0,aQ V.om ((V.B i).h t k0) (dV (V.om ((V.B i).h t k0)) af aK),V.lg.dI ((V.B i).h t k0) (V.om ((V.B i).h t k0))⟩) ⟨(V.B i).leave V.om t k0,aQ V.om ((V.B i).h t k0) (dV (V.om ((V.B i).h t k0)) af aK),V.lg.dI ((V.B i).h t k0) (V.om ((V.B i).h t k0))⟩;have hlen:=(qM ((V.B i).h t k0) s (mu ((V.B i).h t k0) s ⟨(V.B i).leave V.om t k0,aQ V.om ((V.B i).h t k0) (dV (V.om ((V.B i).h t k0)) af aK),V.lg.dI ((V.B i).h t k0) (V.om ((V.B i).h t k0))⟩) ⟨(V.B i).leave V.om t k0,aQ V.om ((V.B i).h t k0) (dV (V.om ((V.B i).h t k0)) af aK),V.lg.dI ((V.B i).h t k0) (V.om ((V.B i).h t k0))⟩).2;have hmu:mu ((V.B i).h t k0) s ⟨(V.B i).leave V.om t k0,aQ V.om ((V.B i).h t k0) (dV (V.om ((V.B i).h t k0)) af aK),V.lg.dI ((V.B i).h t k0) (V.om ((V.B i).h t k0))⟩<=1001:=by
  unfold mu;have:((V.B i).leave V.om t k0).n s=(V.B i).n s:=by simp only[Bk.leave,ah _ _ hst]
  rw[this];split <;> omega
 obtain⟨ds,Ts,en,u⟩:=VO (bk:=bk) (V1:=V') (G:=V.lg.dI ((V.B i).h t k0) (V.om ((V.B i).h t k0))) (g:=g) (cap':=cap') gw hi h2 ht hst hk0 hl rfl rfl iv htr hbk hxl h0 h1 (by rw[hV'];exact⟨rfl,fun _ _=>rfl,fun _ _=>rfl,fun _ _=>rfl,fun _ _ _ _ _=>Iff.rfl,rfl,rfl,fun _ _=>rfl,rfl,rfl,cu.tb⟩);have tn:TN V.lg.tp.length V'.lg:=by
  rw[hV'];refine TN.SK (st:=⟨(V.B i).leave V.om t k0,aQ V.om ((V.B i).h t k0) (dV (V.om ((V.B i).h t k0)) af aK),V.lg.dI ((V.B i).h t k0) (V.om ((V.B i).h t k0))⟩) ⟨Nat.le_refl _,?_,?_⟩
  ·show []=(V.lg.tp.drop V.lg.tp.length).map _;rw[List.drop_length];rfl
  ·intro r hr;have hr':r∈V.lg.tp.drop V.lg.tp.length:=hr;rw[List.drop_length]at hr';simp at hr'
 have hent:V'.lg.nt=[.left ((V.B i).h t k0),.gp ((V.B i).h t k0) (V.om ((V.B i).h t k0))]++ds:=by rw[hV'];exact en
 refine⟨?_,tn⟩;rw[<-hV']at R';have cu':iw w' bv bk w.heap.size false (V.lm.ac.map Prod.snd) V'.lg.nt (V.lm.tb++ext) V'.lm cl:=by rw[hV'];exact cu
 have ZT:∀d∈[.left ((V.B i).h t k0),.gp ((V.B i).h t k0) (V.om ((V.B i).h t k0))]++ds,d.sZ=false:=fun d hd=>by
  rw[<-hent]at hd;cases h:d.sZ
  ·rfl
  ·exact absurd (cu'.sZ d hd h) Bool.false_ne_true
 refine DN.of R' cu' (Ph (oc:=(V.B i).h t k0) (t:=t) (g:=g) (cap':=cap') (st:=mF ((V.B i).h t k0) s ⟨(V.B i).leave V.om t k0,aQ V.om ((V.B i).h t k0) (dV (V.om ((V.B i).h t k0)) af aK),V.lg.dI ((V.B i).h t k0) (V.om ((V.B i).h t k0))⟩) R hi cu' (by rw[hV'];rfl) (fun j=>by rw[hV'];rfl) (by rw[mF,hfr.2.1];rfl) hg) hent u hll (by simp) ?_ (by rw[hent];exact u.lM ZT)
 ·rw[<-hent];have h4:V'.lg.nt.length=(mF ((V.B i).h t k0) s ⟨(V.B i).leave V.om t k0,aQ V.om ((V.B i).h t k0) (dV (V.om ((V.B i).h t k0)) af aK),V.lg.dI ((V.B i).h t k0) (V.om ((V.B i).h t k0))⟩).lg.nt.length+1:=by
   rw[hV'];show ((mF _ _ _).lg.nt++[_]).length=_;rw[List.length_append];rfl
  have h5:(V.lg.dI ((V.B i).h t k0) (V.om ((V.B i).h t k0))).nt.length=2:=rfl;simp only[h5]at hlen;unfold mF at h4;omega
end
theorem TN.start{G:Lg}{ds:List dY}(h:kK ds=[]):TN G.tp.length (G.begun.aX ds):=by
 refine⟨Nat.le_refl _,?_,fun r hr=>?_⟩
 ·show kK ([]++ds)=(G.tp.drop G.tp.length).map _;rw[List.drop_length,List.nil_append,h];rfl
 ·have hr':r∈G.tp.drop G.tp.length:=hr;rw[List.drop_length]at hr';simp at hr'
section
variable {w w' : World} {bv bm bo : Nat} {V : aS} {M : Int} {l : List Nat} {bk : Nat -> Nat} {bM : Lm} {cl : List Value}
theorem PZ{i s t b g cap':Nat}{o:iT}{ext:List Nat}(R:dS w bv bm bo V)(gw:GW V M)(hl:∀x,VL V x->x∈l)(hlb:b∈l)(hll:l.length<1000)(hi:i<V.nb)(h2:s<2)(ht:t=1-s)(hid:(Lit.int .i64 o.id).wf=true)(hfree:V.aW o.id=none)(hb:w.heap.size<=b)(hn:(V.B i).n s<=1000)
 (iv:sV b s ⟨V.B i,aQ V.om b (aN o),V.lg.bf o.id⟩) (htr:(mF b s ⟨V.B i,aQ V.om b (aN o),V.lg.bf o.id⟩).lg.tr.length+1<1000000000)
 (hbk:∀k,k<(V.B i).n s->bk ((V.B i).h s k)=V.bk i) (acW:bk b=V.bk i) (h0:0<=(V.B i).places) (h1:(V.B i).places<=1000000000000)
 (R':dS w' bv bm bo (V.enter i b s t g cap' o bM)) (cu:iw w' bv bk w.heap.size false (V.lm.ac.map Prod.snd) (V.enter i b s t g cap' o bM).lg.nt (V.lm.tb++ext) bM cl)
 (hg:dB ((mF b s ⟨V.B i,aQ V.om b (aN o),V.lg.bf o.id⟩).om b)=true->∀c∈cl,∀x,yA c x->x≠g) :
 DN bv bm bo V (V.enter i b s t g cap' o bM) (kK (V.enter i b s t g cap' o bM).lg.nt) w.heap.size w'/\TN V.lg.tp.length (V.enter i b s t g cap' o bM).lg:=by
 have hnew:¬VL V b:=fun ⟨id,hx⟩=>by
  obtain⟨_,ix,hob⟩:=R.bz id b hx;have:=hob.lt;omega
 have hout:FD V b:=fun j hj u hu hm=>hnew (((gw.gb j hj).mem u hu b).1 hm).1
 have hxl:=IQ (G:=V.lg) (V:=V) (w:=w) R R'.aP.aP.len cu.tb;have hfr:=jy b s (mu b s ⟨V.B i,aQ V.om b (aN o),V.lg.bf o.id⟩) ⟨V.B i,aQ V.om b (aN o),V.lg.bf o.id⟩;have hlen:=(qM b s (mu b s ⟨V.B i,aQ V.om b (aN o),V.lg.bf o.id⟩) ⟨V.B i,aQ V.om b (aN o),V.lg.bf o.id⟩).2;have hmu:mu b s ⟨V.B i,aQ V.om b (aN o),V.lg.bf o.id⟩<=1001:=by
  unfold mu;split <;> (simp only[];omega)
 have hlp:∀x,VL (V.zJ o.id b (aN o)) x->x∈l:=fun x hx=>by
  obtain⟨j,hj⟩:=hx;have hj':(if j=o.id then some b else V.aW j)=some x:=hj;by_cases e:j=o.id
  ·rw[if_pos e]at hj';rw[<-Option.some.inj hj'];exact hlb
  ·rw[if_neg e]at hj';exact hl x ⟨j,hj'⟩
 obtain⟨ds,Ts,en,u⟩:=QZ (bk:=bk) (V:=V) (V1:=V.enter i b s t g cap' o bM) (G:=V.lg.bf o.id) (o:=aN o) (g:=g) (cap':=cap') (t:=t) (ext:=ext) hi h2 (by omega) hid hfree hnew hout hlp rfl rfl iv htr (fun k hk=>⟨hbk k hk,(((gw.gb i hi).mem s h2 _).1 ⟨k,hk,rfl⟩).1⟩) (fun k hk j hj u hu hm=>gw.one hi hj h2 hu ⟨k,hk,rfl⟩ hm) hxl acW h0 h1 ⟨rfl,fun _ _=>rfl,fun _ _=>rfl,fun _ _=>rfl,fun _ _ _ _ _=>Iff.rfl,rfl,rfl,fun _ _=>rfl,rfl,rfl,cu.tb⟩;have hent:(V.enter i b s t g cap' o bM).lg.nt=[.entered o.id]++ds:=en;have ZT:∀d∈[.entered o.id]++ds,d.sZ=false:=fun d hd=>by
  rw[<-hent]at hd;cases h:d.sZ
  ·rfl
  ·exact absurd (cu.sZ d hd h) Bool.false_ne_true
 refine⟨DN.of R' cu (Ph (oc:=b) (t:=t) (g:=g) (cap':=cap') (st:=mF b s ⟨V.B i,aQ V.om b (aN o),V.lg.bf o.id⟩) R hi cu rfl (fun j=>rfl) (by rw[mF,hfr.2.1]) hg) hent u hll (by simp) ?_ (by rw[hent];exact u.lM ZT),?_⟩
 ·rw[<-hent];have h4:(V.enter i b s t g cap' o bM).lg.nt.length=(mF b s ⟨V.B i,aQ V.om b (aN o),V.lg.bf o.id⟩).lg.nt.length+1:=by
   show ((mF _ _ _).lg.nt++[_]).length=_;rw[List.length_append];rfl
  have h5:(V.lg.bf o.id).nt.length=1:=rfl;simp only[h5]at hlen;unfold mF at h4;omega
 ·exact TN.SK (st:=⟨V.B i,aQ V.om b (aN o),V.lg.bf o.id⟩) (TN.start (G:=V.lg) (ds:=[.entered o.id]) rfl)
end
theorem Pq{bk:Nat->Nat}{M:Int}{l:List Nat}(hM:M<=1000000000000000):∀(ex:List Nat) (V:aS),GW V M->KK l V->(∀i x,i<V.nb->VL V x->(V.om x).sym=(V.B i).sym->bk x=V.bk i)->ex.Nodup->(∀x∈ex,VL V x/\0<(V.om x).aO) ->
 ∃V' Ts,jO bk (KK l) (ex.flatMap (fun x=>[.left x,.gp x (V.om x)])) Ts V V'/\GW V' M/\V'.aW=V.aW/\V'.no=V.no/\V'.nb=V.nb/\V'.bk=V.bk/\(∀j,(V'.B j).sym=(V.B j).sym)/\(∀j,(V'.B j).places=(V.B j).places)/\(∀x,V'.om x=if x∈ex then gQ (V.om x) else V.om x)/\V'.lg=V.lg/\V'.lm=V.lm
 | [],V,g,hK,hbk,_,_=>⟨V,[],jO.nil V hK,g,rfl,rfl,rfl,rfl,fun _=>rfl,fun _=>rfl,fun _=>rfl,rfl,rfl⟩
 | b :: ex,V,g,hK,hbk,hnd,hop=>by
   obtain⟨hvb,hob⟩:=hop b (by simp);obtain⟨i,hi,hsb⟩:=g.sym b hvb;obtain⟨t,ht,hsd⟩:∃t:Nat,t<2/\(V.om b).side=(t:Int):=by
    rcases g.side b hvb with e | e
    ·exact⟨0,by omega,e⟩
    ·exact⟨1,by omega,e⟩
   obtain⟨k,hk,ek⟩:=((g.gb i hi).mem t ht b).2 ⟨hvb,hsb,hsd,hob⟩;have ev:=aba (G':=V.lg) (bM:=V.lm) g hM hi ht hk ek.symm;obtain⟨V1,hV1⟩:=kL (({ V.turn i ((V.B i).leave V.om t k) (aQ V.om b (gQ (V.om b))) with lg:=V.lg,lm:=V.lm }:aS));rw[<-hV1]at ev;have eb:V1.bk=V.bk:=by rw[hV1];rfl
   have el:V1.lg=V.lg:=by rw[hV1]
   have em:V1.lm=V.lm:=by rw[hV1]
   have vl:∀x,VL V1 x↔VL V x:=fun x=>by unfold VL;rw[ev.aW]
   have u0:jO bk (KK l) [.left b,.gp b (V.om b)] [[],[]] V V1:=X5 (o':=gQ (V.om b)) g ev.gw hK hvb hi ht hsb hsd hob (hbk i b hi hvb hsb) rfl rfl rfl ev.nb (fun j _=>by rw[eb]) (fun j _=>ev.lL j) (fun j _=>ev.Sr j) ev.aW ev.no ev.om (by rw[el]) (by rw[el]) (by rw[em]);have hnd':=List.nodup_cons.1 hnd;have lY:∀x,x≠b->V1.om x=V.om x:=fun x hx=>by rw[ev.om];exact ah _ _ hx
   have hne:∀x∈ex,x≠b:=fun x hx e=>hnd'.1 (e▸hx)
   have K1:KK l V1:=⟨fun x hx=>hK.1 x ((vl x).1 hx),by rw[el];exact hK.2⟩;have dN:∀x,(V1.om x).sym=(V.om x).sym:=fun x=>by
    by_cases e:x=b
    ·rw[e,ev.om,ai];rfl
    ·rw[lY x e]
   obtain⟨V',Ts,u,g',a1,a2,a3,a4,a5,a6,a7,a8,a9⟩:=Pq hM ex V1 ev.gw K1 (fun j x hj hx hs=>by rw[eb];exact hbk j x (by rw[<-ev.nb];exact hj) ((vl x).1 hx) (by rw[<-dN x,<-ev.lL j];exact hs)) hnd'.2 (fun x hx=>⟨(vl x).2 (hop x (by simp[hx])).1,by rw[lY x (hne x hx)];exact (hop x (by simp[hx])).2⟩);have efm:ex.flatMap (fun x=>[dY.left x,dY.gp x (V1.om x)])=ex.flatMap (fun x=>[dY.left x,dY.gp x (V.om x)]):=by
    clear u a7
    induction ex with
    | nil=>rfl
    | cons c ex ih =>
      rw[List.flatMap_cons,List.flatMap_cons,lY c (hne c (by simp)),ih (by rw[List.nodup_cons]at hnd ⊢;exact⟨fun h=>hnd.1 (by simp[h]),(List.nodup_cons.1 hnd.2).2⟩) (fun x hx=>hop x (by rcases List.mem_cons.1 hx with h | h;simp[h];simp[h])) ⟨fun h=>hnd'.1 (by simp[h]),(List.nodup_cons.1 hnd'.2).2⟩ (fun x hx=>hne x (by simp[hx]))]
   rw[efm]at u;refine⟨V',[[],[]]++Ts,?_,g',a1.trans ev.aW,a2.trans ev.no,a3.trans ev.nb,a4.trans eb,fun j=>(a5 j).trans (ev.lL j),fun j=>(a6 j).trans (ev.Sr j),fun x=>?_,a8.trans el,a9.trans em⟩
   ·rw[List.flatMap_cons];exact u0.append u
   ·rw[a7 x];by_cases e:x=b
    ·subst e;rw[if_neg hnd'.1,if_pos (by simp),ev.om,ai]
    ·rw[lY x e];by_cases e2:x∈ex
     ·rw[if_pos e2,if_pos (by simp[e2])]
     ·rw[if_neg e2,if_neg (by simp[e2,e])]
theorem PY{w w':World}{bv bm bo:Nat}{V:aS}{M:Int}{l:List Nat}{bk:Nat->Nat}(hM:M<=1000000000000000)(R:dS w bv bm bo V)(g:GW V M)(hl:∀x,VL V x->x∈l)(hll:l.length<1000)(htr:V.lg.tr.length<1000000000)(hd0:-9223372036854775808<=V.lg.day)(hd1:V.lg.day<9223372036854775808)(hbk:∀i x,i<V.nb->VL V x->(V.om x).sym=(V.B i).sym->bk x=V.bk i)(h:Rz bv bm bo V M bk w w') :
 Next bv bm bo V (fun V2=>ClV V M V2/\DN bv bm bo V V2 [] w.heap.size w') w w':=by
 obtain⟨V2,R2,c,kc,hF,hsl,hbE,ex,hnd,hex,Xk,hnt,cl,cu⟩:=h;have hop:∀x∈ex,VL V x/\0<(V.om x).aO:=fun x hx=>by
  obtain⟨id,hid⟩:=Xk x hx;exact⟨⟨id,hid⟩,((hex id x hid).1 hx).2⟩
 obtain⟨V',Ts,u,g',a1,a2,a3,a4,a5,a6,a7,a8,a9⟩:=Pq hM ex V g ⟨hl,htr⟩ hbk hnd hop;have vl:∀x,VL V' x↔VL V x:=fun x=>by unfold VL;rw[a1]
 have K2:KK l V2:=⟨fun x hx=>hl x (by unfold VL at hx ⊢;rw[c.aW]at hx;exact hx),by rw[c.tr];exact htr⟩;have lk:dQ { V' with lg:={ V'.lg with day:=wrap64 (V.lg.day+1) } } V2:=by
  refine GW.Eb (M:=M) (M':=M) (V:={ V' with lg:={ V'.lg with day:=wrap64 (V.lg.day+1) } }) (g'.U4 _ _) c.gw (c.nb.trans a3.symm) (fun j _=>by show V2.bk j=V'.bk j;rw[hbE j,a4]) (fun j _=>(c.lL j).trans (a5 j).symm) (fun j _=>(c.Sr j).trans (a6 j).symm) (c.aW.trans a1.symm) (c.no.trans a2.symm) (fun x hx=>?_) (by show V2.lg.tr=V'.lg.tr;rw[c.tr,a8]) c.day (by show V2.lm.tb=V'.lm.tb;rw[a9];exact cu.tb);obtain⟨id,hid⟩:=(vl x).1 hx;show V2.om x=V'.om x;rw[c.om id x hid,a7 x];unfold D7;by_cases e:(V.om x).kind=1/\0<(V.om x).aO
  ·rw[if_pos e,if_pos ((hex id x hid).2 e)]
  ·rw[if_neg e,if_neg (fun h=>e ((hex id x hid).1 h))]
 have u2:jO bk (KK l) (ex.flatMap (fun x=>[.left x,.gp x (V.om x)])++[.closed]) (Ts++[[]]) V V2:=jO.jD u (LW (dd:=wrap64 (V.lg.day+1)) (by rw[a8];unfold wrap64;omega) lk) K2;have ZT:∀d∈ex.flatMap (fun x=>[dY.left x,dY.gp x (V.om x)])++[dY.closed],d.sZ=false:=fun d hd=>by
  rcases List.mem_append.1 hd with hd | hd
  ·obtain⟨x,_,hx⟩:=List.mem_flatMap.1 hd;simp at hx;rcases hx with rfl | rfl <;> rfl
  ·rw[List.mem_singleton.1 hd];rfl
 refine⟨V2,R2,⟨c,DN.of R2 cu (CO R cu c.nb (fun j hj y hy=>hsl j y)) hnt u2 hll (by simp) ?_ ?_⟩,kc,hF⟩
 ·have h1:ex.length<=l.length:=by
   have:=Pj (n:=ex.length) (h:=fun k=>ex.getD k 0) (l:=l) (fun a b ha hb e=>?_) (fun k hk=>?_)
   ·exact this
   ·have e:ex.getD a 0=ex.getD b 0:=e;rw[List.getD_eq_getElem?_getD,List.getD_eq_getElem?_getD,List.getElem?_eq_getElem ha,List.getElem?_eq_getElem hb]at e;exact (List.getElem_inj hnd).1 e
   ·show ex.getD k 0∈l;rw[List.getD_eq_getElem?_getD,List.getElem?_eq_getElem hk];exact hl _ (Xk _ (List.getElem_mem hk))
  have h2:(ex.flatMap (fun x=>[dY.left x,dY.gp x (V.om x)])).length=2 * ex.length:=by
   clear u hnt u2 ZT a7 h1 Xk hex hop hnd
   induction ex with
   | nil=>rfl
   | cons c ex ih=>rw[List.flatMap_cons,List.length_append,ih,List.length_cons];simp;omega
  rw[List.length_append,h2];simp;omega
 ·rw[u2.lM ZT,iL];have h3:kK (ex.flatMap (fun x=>[dY.left x,dY.gp x (V.om x)]))=[]:=by
   clear u hnt u2 ZT a7 Xk hex hop hnd
   induction ex with
   | nil=>rfl
   | cons c ex ih=>rw[List.flatMap_cons,iL,ih];rfl
  rw[h3];rfl
theorem uV:∀(t R:List Rc),((kZ R t).drop R.length).map (fun r=>(r.kind,r.t))=t.map (fun r=>(r.kind,r.t))
 | [],R=>by show (R.drop R.length).map _=_;rw[List.drop_length]
 | r :: t,R=>by
   have h:=uV t (R++[{ r with num:=(R.length:Int)+1 }]);have hl:=JQ (R++[{ r with num:=(R.length:Int)+1 }]) t;have hp:∃Z,kZ (R++[{ r with num:=(R.length:Int)+1 }]) t=(R++[{ r with num:=(R.length:Int)+1 }])++Z:=JR t _;obtain⟨Z,hZ⟩:=hp;show ((kZ (R++[_]) t).drop R.length).map _=_;rw[hZ]at h ⊢;rw[List.drop_left]at h;rw[List.append_assoc,List.drop_left,List.map_append,h]
   rfl
where
 JR:∀(t R:List Rc),∃Z,kZ R t=R++Z
  | [],R=>⟨[],by simp[kZ]⟩
  | r :: t,R=>by
    obtain⟨Z,hZ⟩:=JR t (R++[{ r with num:=(R.length:Int)+1 }]);exact⟨{ r with num:=(R.length:Int)+1 } :: Z,by show kZ _ t=_;rw[hZ];simp⟩
theorem EE{t0:List Tg}:∀{t:List Rc},(∀r∈t,r.kind=1)->uh t0 t=t.map (fun r=>(2,r.t))
 | [],_=>rfl
 | r :: t,h=>by
   have h1:=h r (by simp);unfold uh;rw[List.filterMap_cons];simp only[Uc,h1,if_true];rw[List.map_cons];congr 1;exact EE (fun x hx=>h x (by simp[hx]))
theorem TN.kinds{R told:List Rc}{G:Lg}(h:TN R.length G)(htp:G.tp=kZ R told):∀r∈told,r.kind=1:=fun r hr=>by
 have hd:=uV told R;rw[<-htp]at hd;have:(r.kind,r.t)∈told.map (fun r=>(r.kind,r.t)):=List.mem_map.2 ⟨r,hr,rfl⟩;rw[<-hd]at this;obtain⟨r',hr',e⟩:=List.mem_map.1 this;have:=h.2.2 r' hr';simp only[Prod.mk.injEq]at e;omega
theorem TN.uh{t0:List Tg}{R told:List Rc}{G:Lg}(h:TN R.length G)(htp:G.tp=kZ R told):Go.Proofs.YtigaphnafnpfnaaGreatDoor.uh t0 told=kK G.nt:=by
 have hd:=uV told R;rw[<-htp]at hd;rw[EE (h.kinds htp),h.2.1];have h2:=congrArg (List.map (fun p:Int × Tr=>((2:Int),p.2))) hd;rw[List.map_map,List.map_map]at h2;exact h2.symm
theorem dA.ol{p:Nat->Nat}{V:aS}{S:RS}{N:Nat}(h:dA p V S N):∃l:List Nat,l.length<=200/\∀x,VL V x->x∈l:=by
 refine⟨(List.range S.l.length).map p,by rw[List.length_map,List.length_range];have:=h.no;have:=h.gV;omega,fun x hx=>?_⟩;obtain⟨k,hk,e⟩:=(h.vl x).1 hx;exact List.mem_map.2 ⟨k,List.mem_range.2 hk,e⟩
theorem Next.with{bv bm bo:Nat}{V V':aS}{Q:aS->Prop}{w w':World}(h:Next bv bm bo V (fun V2=>V2=V') w w')(hq:dS w' bv bm bo V'->Q V'):Next bv bm bo V Q w w':=by
 obtain⟨V2,R2,rfl,k,f⟩:=h;exact⟨V2,R2,hq R2,k,f⟩
theorem Next.mono{bv bm bo:Nat}{V:aS}{Q Q':aS->Prop}{w w':World}(h:Next bv bm bo V Q w w')(hq:∀V2,Q V2->Q' V2):Next bv bm bo V Q' w w':=by
 obtain⟨V2,R2,q,k,f⟩:=h;exact⟨V2,R2,hq V2 q,k,f⟩
theorem DN.bJ{bv bm bo:Nat}{V V':aS}{B:List (Int × Tr)}{lo:Nat}{w w':World}(h:DN bv bm bo V V' B lo w){x:Nat}{c:Array Value}(hb:aA w x c 87)(k:aj (fun y=>y=x) w w'):DN bv bm bo V V' B lo w':=by
 obtain⟨n,l,u,h1,h2,h3,h4,h5,f,fl⟩:=h;refine⟨n,l,u,h1,h2,h3,h4,h5,f.aB k (fun c hc y hy e=>?_),fl⟩;obtain⟨i,hi,rfl⟩:=List.mem_iff_getElem.1 hc;have hi':i<n.ds.length:=by rw[<-f.len];exact hi
 obtain⟨cs,t,ht,hx⟩:=(f.nH i _ _ (List.getElem?_eq_getElem hi') (List.getElem?_eq_getElem hi)).gK hy;rw[e]at ht;have:=yw ht hb;subst this;rcases hx with e | e | e | e | e | e | e | e | ⟨_,e⟩ <;> exact absurd e (by decide)
theorem PM(V:aS)(i s b:Nat)(again:Bool):kK (VF V i s b again)=[]/\(∀d∈VF V i s b again,d.sZ=false)/\(VF V i s b again).length<=3:=by
 unfold VF;split
 ·exact⟨rfl,fun d hd=>by rw[List.mem_singleton.1 hd];rfl,by simp⟩
 ·split
  ·refine⟨rfl,fun d hd=>?_,by simp⟩;simp at hd;rcases hd with rfl | rfl | rfl <;> rfl
  ·refine⟨rfl,fun d hd=>?_,by simp⟩;simp at hd;rcases hd with rfl | rfl <;> rfl
open Go.RowKit Go.Maps
theorem aax(s:ByteArray)(i:Nat):(JE s i).2<=2:=by
 unfold JE;split
 ·simp
 ·split <;> simp
theorem BV(s:ByteArray):∀f i n,qN s f i n=true->n<=6/\s.size<=i+2 * (6-n)
 | 0,i,n,h=>by simp[qN]at h
 | f+1,i,n,h=>by
   unfold qN at h;split at h
   ·split at h
    ·have:=BV s f _ _ h;have h2:=aax s i;omega
    ·simp at h
   ·simp at h;omega
theorem Qz{s:ByteArray}(h:nX s=true):s.size<=12:=by
 have:=BV s _ _ _ h;omega
end Go.Proofs.YtigaphnafnpfnaaGreatDoor
