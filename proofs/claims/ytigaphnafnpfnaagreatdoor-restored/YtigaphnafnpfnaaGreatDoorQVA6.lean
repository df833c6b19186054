import Derived.Test.YtigaphnafnpfnaaGreatDoorQVA4
set_option linter.unusedVariables false
set_option linter.unusedSimpArgs false
set_option maxHeartbeats 8000000
set_option maxRecDepth 100000
namespace Go.Proofs.YtigaphnafnpfnaaGreatDoor
open Go.RowKit
theorem RX{s:Option Addr}{ab:Nat}(h:s=some ⟨ab,0,none⟩):ig s=some ab:=by subst h;rfl
theorem Qg(bb so ob n cap:Nat)(s:Option Addr)(bc:Array Value)(h:Nat->Nat)(om:Nat->Ord)(ix:Int)(w:World)(hbk:aA w bb bc 158)(hso:bc[so]?=some (.slice s n cap))(hsd:jk w s n cap h om)
 (ho:df w ob (om ob) ix) (hnew:∀k,k<n->h k≠ob) (hn:n<1000) :
 CT 150 #[.iface 216 (.pointer (some ⟨bb,so,none⟩)),.iface 114 (PP ob)] w fun e w'=>e=.returned (.tuple #[]) /\
  ∃g cap',aA w' bb (bc.setIfInBounds so (.slice (some ⟨g,0,none⟩) (n+1) cap')) 158/\kM w' g cap' (n+1) (vF (fP om) (fun k=>if k=n then ob else h k) n) om /\
   aj (fun b=>b=bb\/b=ob\/ig s=some b\/∃k,k<n/\b=h k) w w'/\(ig s=some g\/w.heap.size<=g):=by
 have hm:=UA ⟨bb,so,none⟩ w;have hlt:so<bc.size:=(Array.getElem?_eq_some_iff.1 hso).1;go_enter Tryz.func150,Tryz.ntmps150;go_wp2_with fail;refine (U0 bb so ob n cap s bc h om ix w hbk hso hsd ho hnew hn).mono ?_;rintro e w1 ⟨rfl,g,cap1,hb1,hs1,hc1,hg1⟩;have abM:(bc.setIfInBounds so (.slice (some ⟨g,0,none⟩) (n+1) cap1))[so]?=some (.slice (some ⟨g,0,none⟩) (n+1) cap1):=Array.getElem?_setIfInBounds_self_of_lt hlt;have hm1:=OY ⟨bb,so,none⟩ w1 (some ⟨g,0,none⟩) (n+1) cap1 ((hb1.cell so).trans abM);clear hm;go_wp2_with fail;refine (Gn (some ⟨g,0,none⟩) (n+1) cap1 w1).mono ?_;rintro e w2 ⟨rfl,rfl⟩;clear hm1;have e1:(((n+1:Nat):Int)-1)=(n:Int):=by omega
 go_wp2_with fail;refine (VT bb so g cap1 (n+1) n _ _ om _ hb1 abM hs1 (by omega)).mono ?_;rintro e w3 ⟨rfl,hs3,hc3⟩;go_wp2;go_end0;have hnb:¬Sd g (n+1) (fun k=>if k=n then ob else h k) bb:=by
  rintro (rfl | ⟨k,hk,rfl⟩)
  ·obtain⟨cs,hb,_⟩:=hs1.sJ;exact aA.ne hb1 hb (by decide) rfl
  ·exact aA.ne hb1 (hs1.ord k hk) (by decide) rfl
 refine⟨rfl,g,cap1,hc3.aF hb1 hnb,hs3,?_,hg1⟩;refine aj.from (hc1.mono (fun b hb=>by rcases hb with h | h | h;exact .inl h;exact .inr (.inl h);exact lN h)) (hc3.mono ?_);rintro b (rfl | ⟨k,hk,rfl⟩)
 ·rcases hg1 with h | h
  ·exact .inl (lN h)
  ·exact .inr h
 ·left;by_cases e:k=n
  ·exact .inr (.inl (by simp[e]))
  ·exact .inr (.inr (.inr ⟨k,by omega,by simp[e]⟩))
def eQ(lt:Nat->Nat->Bool)(h:Nat->Nat)(n i:Nat):Nat->Nat :=
 if i=n then h else if i<(eF lt n (sw h i n) i).2 then (eF lt n (sw h i n) i).1 else vF lt (eF lt n (sw h i n) i).1 i
theorem ku{h:Nat->Nat}{i j k:Nat}(h1:k≠i)(h2:k≠j):sw h i j k=h k:=by unfold sw;rw[if_neg h1,if_neg h2]
theorem P5{lt:Nat->Nat->Bool}{n:Nat}{k:Nat}(hk:n<=k)(h:Nat->Nat)(i:Nat):(eF lt n h i).1 k=h k:=by
 fun_induction eF lt n h i with
 | case1 h i hn _ hl ih =>
   rw[ih];have:=qI lt n h i hn;exact ku (by omega) (by omega)
 | case2=>rfl
 | case3=>rfl
theorem X8{lt:Nat->Nat->Bool}{k:Nat}(h:Nat->Nat)(j:Nat)(hk:j<k):(vF lt h j) k=h k:=by
 fun_induction vF lt h j with
 | case1=>rfl
 | case2 h j hj hl ih =>
   rw[ih (by omega)];exact ku (by omega) (by omega)
 | case3=>rfl
theorem rV{lt:Nat->Nat->Bool}{h:Nat->Nat}{n i:Nat}(hi:i<=n):eQ lt h n i n=h i:=by
 unfold eQ;split
 ·rename_i e;rw[e]
 ·have h1:(eF lt n (sw h i n) i).1 n=h i:=by
   rw[P5 (Nat.le_refl _)];unfold sw;rw[if_neg (by omega),if_pos rfl]
  split
  ·exact h1
  ·rw[X8 _ _ (by omega)];exact h1
theorem WR{lt:Nat->Nat->Bool}{ab N n:Nat}{h:Nat->Nat}{i:Nat}(hi:i<=n)(hn:n<=N):Sd ab N (eF lt n h i).1=Sd ab N h:=by
 fun_induction eF lt n h i with
 | case1 h i hn' _ hl ih =>
   have:=qI lt n h i hn';rw[ih (by omega),AL (by omega) (by omega)]
 | case2=>rfl
 | case3=>rfl
theorem NM(bb so ab n cap i:Nat)(bc:Array Value)(h:Nat->Nat)(om:Nat->Ord)(w:World)(hbk:aA w bb bc 158)(hso:bc[so]?=some (.slice (some ⟨ab,0,none⟩) (n+1) cap))(hsd:kM w ab cap (n+1) h om)(hi:i<=n) :
 CT 149 #[.iface 216 (.pointer (some ⟨bb,so,none⟩)),II i] w fun e w'=>e=.returned (.iface 114 (PP (h i))) /\
  aA w' bb (bc.setIfInBounds so (.slice (some ⟨ab,0,none⟩) n cap)) 158/\kM w' ab cap n (eQ (fP om) h n i) om/\df w' (h i) (om (h i)) n/\aj (fun b=>b=bb\/Sd ab (n+1) h b) w w':=by
 have hm:=OY ⟨bb,so,none⟩ w (some ⟨ab,0,none⟩) (n+1) cap ((hbk.cell so).trans hso);have hsm:=hsd.small;have hout:¬Sd ab (n+1) h bb:=by
  rintro (rfl | ⟨k,hk,rfl⟩)
  ·obtain⟨cs,hb,_⟩:=hsd.sJ;exact aA.ne hbk hb (by decide) rfl
  ·exact aA.ne hbk (hsd.ord k hk) (by decide) rfl
 by_cases hin:i=n
 ·subst hin;go_enter Tryz.func149,Tryz.ntmps149;go_wp2_with fail;refine (Gn (some ⟨ab,0,none⟩) (i+1) cap w).mono ?_;rintro e w2 ⟨rfl,rfl⟩;have hp:=Gv ⟨bb,so,none⟩ w2;clear hm;go_wp2_with fail;refine (GM bb so ab i cap bc h om _ hbk hso hsd).mono ?_;rintro e w3 ⟨rfl,hb3,hs3,ho3,hc3⟩;clear hp;go_wp2;go_ret;refine⟨rfl,hb3,?_,ho3,hc3.mono ?_⟩
  ·unfold eQ;rw[if_pos rfl];exact hs3
  ·rintro b (rfl | rfl)
   ·exact .inl rfl
   ·exact .inr (.inl rfl)
 ·have e1:((n:Int) != (i:Int))=true:=by simp;omega
  go_enter Tryz.func149,Tryz.ntmps149;go_wp2_with fail;refine (Gn (some ⟨ab,0,none⟩) (n+1) cap w).mono ?_;rintro e w2 ⟨rfl,rfl⟩;have hms:=uk ⟨bb,so,none⟩ w2 (some ⟨ab,0,none⟩) (n+1) cap ((hbk.cell so).trans hso);clear hm;go_wp2_with fail;refine (yV ab cap (n+1) i n h om _ hsd (by omega) (by omega) hin).mono ?_;rintro e w3 ⟨rfl,hs3,hc3⟩;have hb3:=hc3.aF hbk hout;clear hms;go_wp2_with fail;refine (S9 bb so ab cap (n+1) n i bc _ om _ hb3 hso hs3 (by omega) hi).mono ?_;rintro e w4 ⟨rfl,hs4,hc4⟩;rw[AL (by omega) (by omega)]at hc4;have hb4:=hc4.aF hb3 hout;by_cases hd:i<(eF (fP om) n (sw h i n) i).2
  ·have hdt:decide (i<(eF (fP om) n (sw h i n) i).2)=true:=by simp[hd]
   rw[hdt];have hp:=Gv ⟨bb,so,none⟩ w4;have hN:(eF (fP om) n (sw h i n) i).1=eQ (fP om) h n i:=by unfold eQ;rw[if_neg hin,if_pos hd]
   rw[hN]at hs4;have hl:=rV (lt:=fP om) (h:=h) hi;have HL:=au hl;clear hN hd hdt hl;go_wp2_with fail;refine (GM bb so ab n cap bc _ om _ hb4 hso hs4).mono ?_;rintro e w5 ⟨rfl,hb5,hs5,YI,hc5⟩;clear hp;rw[ae HL];rw[ae HL]at YI;go_wp2;go_ret;refine⟨rfl,hb5,hs5,YI,((hc3.trans hc4).mono (fun b hb=>.inr hb)).trans (hc5.mono ?_)⟩;rintro b (rfl | rfl)
   ·exact .inl rfl
   ·exact .inr (.inl rfl)
  ·have hdt:decide (i<(eF (fP om) n (sw h i n) i).2)=false:=by simp[hd]
   rw[hdt];have hN:vF (fP om) (eF (fP om) n (sw h i n) i).1 i=eQ (fP om) h n i:=by unfold eQ;rw[if_neg hin,if_neg hd]
   have HS:Hid (Sd ab (n+1) (eF (fP om) n (sw h i n) i).1=Sd ab (n+1) h):=by
    show _=_;rw[WR hi (by omega),AL (by omega) (by omega)]
   have HN:=au hN;clear hN hd hdt;go_wp2_with fail;refine (VT bb so ab cap (n+1) i bc _ om _ hb4 hso hs4 (by omega)).mono ?_;rintro e w5 ⟨rfl,hs5,hc5⟩;rw[ae HS]at hc5;have hb5:=hc5.aF hb4 hout;have hp:=Gv ⟨bb,so,none⟩ w5;rw[ae HN]at hs5;have HL:=au (rV (lt:=fP om) (h:=h) hi);go_wp2_with fail;refine (GM bb so ab n cap bc _ om _ hb5 hso hs5).mono ?_;rintro e w6 ⟨rfl,hb6,hs6,ho6,hc6⟩;clear hp;rw[ae HL];rw[ae HL]at ho6;go_wp2;go_ret;refine⟨rfl,hb6,hs6,ho6,(((hc3.trans hc4).trans hc5).mono (fun b hb=>.inr hb)).trans (hc6.mono ?_)⟩;rintro b (rfl | rfl)
   ·exact .inl rfl
   ·exact .inr (.inl rfl)
structure WO(lt:Nat->Nat->Bool)(P:Nat->Prop):Prop where
 WV:∀x y,P x->P y->lt x y=true->lt y x=false
 trans:∀x y z,P x->P y->P z->lt y x=false->lt z y=false->lt z x=false
 irr:∀x,P x->lt x x=false
def par(k:Nat):Nat:=(k-1) / 2
def eG(lt:Nat->Nat->Bool)(n:Nat)(h:Nat->Nat):Prop:=∀k,0<k->k<n->lt (h k) (h (par k))=false
theorem CE{lt:Nat->Nat->Bool}{P:Nat->Prop}(pre:WO lt P){n:Nat}{h:Nat->Nat}(ok:eG lt n h)(hP:∀k,k<n->P (h k)):∀k,k<n->lt (h k) (h 0)=false:=by
 intro k
 induction k using Nat.strongRecOn with
 | _ k ih =>
   intro hk;by_cases h0:k=0
   ·subst h0;exact pre.irr _ (hP 0 hk)
   ·have hp:par k<k:=by unfold par;omega
    exact pre.trans (h 0) (h (par k)) (h k) (hP 0 (by omega)) (hP _ (by omega)) (hP k hk) (ih (par k) hp (by omega)) (ok k (by omega) hk)
def aaK(lt:Nat->Nat->Bool)(n:Nat)(h:Nat->Nat)(j:Nat):Prop :=
 (∀k,0<k->k<n->k≠j->lt (h k) (h (par k))=false)/\(∀c,0<c->c<n->par c=j->0<j->lt (h c) (h (par j))=false)
theorem Hm(h:Nat->Nat)(i j:Nat):sw h i j i=h j:=by unfold sw;rw[if_pos rfl]
theorem NW(h:Nat->Nat)(i j:Nat):sw h i j j=h i:=by
 unfold sw;split
 ·rename_i e;rw[e]
 ·rw[if_pos rfl]
theorem swP{P:Nat->Prop}{n:Nat}{h:Nat->Nat}(hP:∀k,k<n->P (h k)){i j:Nat}(hi:i<n)(hj:j<n):∀k,k<n->P (sw h i j k):=by
 intro k hk;unfold sw;split
 ·exact hP j hj
 ·split
  ·exact hP i hi
  ·exact hP k hk
theorem VU{lt:Nat->Nat->Bool}{P:Nat->Prop}(pre:WO lt P){n:Nat}(h:Nat->Nat)(j:Nat)(hP:∀k,k<n->P (h k))(hj:j<n)(ex:aaK lt n h j):eG lt n (vF lt h j):=by
 fun_induction vF lt h j with
 | case1 h=>exact fun k h0 hk=>ex.1 k h0 hk (by omega)
 | case3 h j hj0 hl =>
   intro k h0 hk;by_cases e:k=j
   ·subst e;simpa [par] using hl
   ·exact ex.1 k h0 hk e
 | case2 h j hj0 hl ih =>
   have hp:(j-1) / 2<j:=by omega
   have Rt:par j=(j-1) / 2:=rfl;have hlt:=pre.WV _ _ (hP j hj) (hP _ (by omega)) hl;refine ih (swP hP (by omega) hj) (by omega) ⟨?_,?_⟩
   ·intro k h0 hk hne;by_cases e1:k=j
    ·subst e1;rw[Rt,NW,Hm];exact hlt
    ·rw[ku hne e1];by_cases e2:par k=(j-1) / 2
     ·rw[e2,Hm];have:=ex.1 k h0 hk e1;rw[e2]at this;exact pre.trans _ _ _ (hP j hj) (hP _ (by omega)) (hP k hk) hlt this
     ·by_cases e3:par k=j
      ·rw[e3,NW];exact ex.2 k h0 hk e3 (by omega)
      ·rw[ku e2 e3];exact ex.1 k h0 hk e1
   ·intro c h0 hc hpc hp0;have hpp:par ((j-1) / 2)<(j-1) / 2:=by unfold par;omega
    rw[ku (k:=par ((j-1) / 2)) (by omega) (by omega)];have h1:lt (h ((j-1) / 2)) (h (par ((j-1) / 2)))=false:=ex.1 _ hp0 (by omega) (by omega);by_cases e1:c=j
    ·subst e1;rw[NW];exact h1
    ·have e2:c≠(j-1) / 2:=by unfold par at hpc;omega
     rw[ku e2 e1];have h2:=ex.1 c h0 hc e1;rw[hpc]at h2;exact pre.trans _ _ _ (hP _ (by omega)) (hP _ (by omega)) (hP c hc) h1 h2
def RF(lt:Nat->Nat->Bool)(n:Nat)(h:Nat->Nat)(i:Nat):Prop :=
 (∀k,0<k->k<n->k≠i->par k≠i->lt (h k) (h (par k))=false)/\(∀c,0<c->c<n->par c=i->0<i->lt (h c) (h (par i))=false)
theorem Gi{lt:Nat->Nat->Bool}{P:Nat->Prop}(pre:WO lt P){n:Nat}{h:Nat->Nat}(hP:∀k,k<n->P (h k)){i:Nat}(hn:2 * i+1<n){c:Nat}(h0:0<c)(hc:c<n)(hpc:par c=i):lt (h c) (h (wE lt n h i))=false:=by
 have:c=2 * i+1\/c=2 * i+2:=by unfold par at hpc;omega
 unfold wE;split
 ·rename_i hh;rcases this with rfl | rfl
  ·exact pre.WV _ _ (hP _ hh.1) (hP _ hc) hh.2
  ·exact pre.irr _ (hP _ hc)
 ·rename_i hh;rcases this with rfl | rfl
  ·exact pre.irr _ (hP _ hc)
  ·by_cases e:lt (h (2 * i+2)) (h (2 * i+1))=true
   ·exact absurd ⟨hc,e⟩ hh
   ·simpa using e
theorem Xt(lt:Nat->Nat->Bool)(n:Nat)(h:Nat->Nat)(i:Nat):par (wE lt n h i)=i:=by
 unfold par wE;split <;> omega
theorem Ey{lt:Nat->Nat->Bool}{P:Nat->Prop}(pre:WO lt P){n:Nat}{h:Nat->Nat}{i:Nat}(hP:∀k,k<n->P (h k))(hn:2 * i+1<n)(ex:RF lt n h i)(hl:lt (h (wE lt n h i)) (h i)=true) :
 (∀k,0<k->k<n->par k≠wE lt n h i->lt (sw h i (wE lt n h i) k) (sw h i (wE lt n h i) (par k))=false)/\RF lt n (sw h i (wE lt n h i)) (wE lt n h i):=by
 have hb:=qI lt n h i hn;have hkp:=Xt lt n h i;have hmin:=fun {c:Nat}=>Gi pre (h:=h) hP hn (c:=c)
 generalize wE lt n h i=d at *;have hlt:=pre.WV _ _ (hP d hb.2) (hP i (by omega)) hl;have key:∀k,0<k->k<n->par k≠d->lt (sw h i d k) (sw h i d (par k))=false:=by
  intro k h0 hk hne;have hpk:par k<k:=by unfold par;omega
  by_cases e1:k=i
  ·subst e1;rw[Hm,ku (by omega) hne];exact ex.2 d (by omega) hb.2 hkp h0
  ·by_cases e2:k=d
   ·subst e2;rw[NW,hkp,Hm];exact hlt
   ·rw[ku e1 e2];by_cases e3:par k=i
    ·rw[e3,Hm];exact hmin h0 hk e3
    ·rw[ku e3 hne];exact ex.1 k h0 hk e1 e3
 refine⟨key,fun k h0 hk _ hne=>key k h0 hk hne,?_⟩;intro c h0 hc hpc _;rw[hkp,Hm];have hpk:par c<c:=by unfold par;omega
 rw[ku (by omega) (by omega)];have:=ex.1 c h0 hc (by omega) (by omega);rw[hpc]at this;exact this
theorem Xb{lt:Nat->Nat->Bool}{P:Nat->Prop}(pre:WO lt P){n:Nat}(h:Nat->Nat)(i:Nat)(hP:∀k,k<n->P (h k))(ex:RF lt n h i)(all:∀k,0<k->k<n->par k≠i->lt (h k) (h (par k))=false):eG lt n (eF lt n h i).1:=by
 fun_induction eF lt n h i with
 | case1 h i hn _ hl ih =>
   have hb:=qI lt n h i hn;obtain⟨h1,h2⟩:=Ey pre hP hn ex hl;exact ih (swP hP (by omega) hb.2) h2 h1
 | case2 h i hn _ hl =>
   intro k h0 hk;by_cases e:par k=i
   ·have:=Gi pre hP hn h0 hk e;have hb:=qI lt n h i hn;rw[e];exact pre.trans _ _ _ (hP i (by omega)) (hP _ hb.2) (hP k hk) (by simpa using hl) this
   ·exact all k h0 hk e
 | case3 h i hn =>
   intro k h0 hk;exact all k h0 hk (by unfold par;omega)
theorem zx{lt:Nat->Nat->Bool}{P:Nat->Prop}(pre:WO lt P){n:Nat}(h:Nat->Nat)(i:Nat)(hP:∀k,k<n->P (h k))(ex:RF lt n h i) :
 eG lt n (eF lt n h i).1\/(eF lt n h i=(h,i)/\aaK lt n h i):=by
 by_cases hn:2 * i+1<n
 ·cases hl:lt (h (wE lt n h i)) (h i)
  ·right;refine⟨oM hn hl,?_,ex.2⟩;intro k h0 hk hne;by_cases e:par k=i
   ·have:=Gi pre hP hn h0 hk e;have hb:=qI lt n h i hn;rw[e];exact pre.trans _ _ _ (hP i (by omega)) (hP _ hb.2) (hP k hk) hl this
   ·exact ex.1 k h0 hk hne e
  ·left;have hb:=qI lt n h i hn;obtain⟨h1,h2⟩:=Ey pre hP hn ex hl;rw[tZ hn hl];exact Xb pre _ _ (swP hP (by omega) hb.2) h2 h1
 ·right;refine⟨uK hn,?_,ex.2⟩;intro k h0 hk hne;exact ex.1 k h0 hk hne (by unfold par;omega)
theorem SY{lt:Nat->Nat->Bool}{n:Nat}(h:Nat->Nat)(i:Nat):i<=(eF lt n h i).2:=by
 fun_induction eF lt n h i with
 | case1 h i hn _ hl ih=>have:=qI lt n h i hn;omega
 | case2=>exact Nat.le_refl _
 | case3=>exact Nat.le_refl _
theorem SX{lt:Nat->Nat->Bool}{n:Nat}(h:Nat->Nat)(i:Nat)(he:¬i<(eF lt n h i).2):eF lt n h i=(h,i):=by
 by_cases hn:2 * i+1<n
 ·cases hl:lt (h (wE lt n h i)) (h i)
  ·exact oM hn hl
  ·exfalso;rw[tZ hn hl]at he;have:=SY (lt:=lt) (n:=n) (sw h i (wE lt n h i)) (wE lt n h i);have:=qI lt n h i hn;omega
 ·exact uK hn
theorem adC{lt:Nat->Nat->Bool}{P:Nat->Prop}{n:Nat}(h:Nat->Nat)(j:Nat)(hP:∀k,k<n->P (h k))(hj:j<n):∀k,k<n->P (vF lt h j k):=by
 fun_induction vF lt h j with
 | case1=>exact hP
 | case3=>exact hP
 | case2 h j hj0 hl ih=>exact ih (swP hP (by omega) hj) (by omega)
theorem aa8{lt:Nat->Nat->Bool}{P:Nat->Prop}{n N:Nat}(hN:n<=N)(h:Nat->Nat)(i:Nat)(hP:∀k,k<N->P (h k)):∀k,k<N->P ((eF lt n h i).1 k):=by
 fun_induction eF lt n h i with
 | case1 h i hn _ hl ih =>
   have:=qI lt n h i hn;exact ih (swP hP (by omega) (by omega))
 | case2=>exact hP
 | case3=>exact hP
theorem E5{lt:Nat->Nat->Bool}{P:Nat->Prop}(pre:WO lt P){n:Nat}(h:Nat->Nat)(i:Nat)(hi:i<=n)(hP:∀k,k<n+1->P (h k))(ok:eG lt (n+1) h):eG lt n (eQ lt h n i):=by
 unfold eQ;split
 ·exact fun k h0 hk=>ok k h0 (by omega)
 ·rename_i hne;have hPs:=swP hP (show i<n+1 by omega) (show n<n+1 by omega);have ZJ:∀k,k<n->P (sw h i n k):=fun k hk=>hPs k (by omega)
  have ex:RF lt n (sw h i n) i:=by
   refine⟨?_,?_⟩
   ·intro k h0 hk h1 h2;have:par k<k:=by unfold par;omega
    rw[ku h1 (by omega),ku h2 (by omega)];exact ok k h0 (by omega)
   ·intro c h0 hc hpc hi0;have h1:par c<c:=by unfold par;omega
    have h2:par i<i:=by unfold par;omega
    rw[ku (by omega) (by omega),ku (by omega) (by omega)];have a1:=ok c h0 (by omega);rw[hpc]at a1;exact pre.trans _ _ _ (hP _ (by omega)) (hP i (by omega)) (hP c (by omega)) (ok i hi0 (by omega)) a1
  split
  ·rename_i hm;rcases zx pre _ _ ZJ ex with h1 | ⟨h1,_⟩
   ·exact h1
   ·rw[h1]at hm;exact absurd hm (by simp)
  ·rename_i hm;have e:=SX _ _ hm;rw[e];rcases zx pre _ _ ZJ ex with h1 | ⟨_,h1⟩
   ·rw[e]at h1;refine VU pre _ _ ZJ (by omega) ⟨fun k h0 hk _=>h1 k h0 hk,?_⟩;intro c h0 hc hpc hi0;have a1:=h1 c h0 hc;rw[hpc]at a1;exact pre.trans _ _ _ (ZJ _ (by unfold par;omega)) (ZJ i (by omega)) (ZJ c hc) (h1 i hi0 (by omega)) a1
   ·exact VU pre _ _ ZJ (by omega) h1
theorem GN{lt:Nat->Nat->Bool}{P:Nat->Prop}(pre:WO lt P){n:Nat}(h:Nat->Nat)(x:Nat)(hx:P x)(hP:∀k,k<n->P (h k))(ok:eG lt n h):eG lt (n+1) (vF lt (fun k=>if k=n then x else h k) n):=by
 refine VU pre _ _ (fun k hk=>?_) (by omega) ⟨?_,?_⟩
 ·by_cases e:k=n
  ·simp only[e,if_true];exact hx
  ·simp only[e,if_false];exact hP k (by omega)
 ·intro k h0 hk hne;have:par k<k:=by unfold par;omega
  simp only[hne,if_false,show par k≠n by omega];exact ok k h0 (by omega)
 ·intro c h0 hc hpc _;have:par c<c:=by unfold par;omega
  omega
def Mem(n:Nat)(h:Nat->Nat)(x:Nat):Prop:=∃k,k<n/\x=h k
theorem Zq(n:Nat)(h:Nat->Nat):∀k,k<n->Mem n h (h k):=fun k hk=>⟨k,hk,rfl⟩
theorem Gu{n:Nat}{h:Nat->Nat}{i j:Nat}(hi:i<n)(hj:j<n)(x:Nat):Mem n (sw h i j) x↔Mem n h x:=by
 have key:∀h:Nat->Nat,∀x,Mem n (sw h i j) x->Mem n h x:=by
  rintro h x ⟨k,hk,rfl⟩;exact swP (Zq n h) hi hj k hk
 constructor
 ·exact key h x
 ·intro hx;have e:sw (sw h i j) i j=h:=by
   funext k;by_cases e1:k=i
   ·subst e1;rw[Hm,NW]
   ·by_cases e2:k=j
    ·subst e2;rw[NW,Hm]
    ·rw[ku e1 e2,ku e1 e2]
  rw[<-e]at hx;exact key _ x hx
theorem Uz{lt:Nat->Nat->Bool}{n:Nat}(h:Nat->Nat)(j:Nat)(hj:j<n)(x:Nat):Mem n (vF lt h j) x↔Mem n h x:=by
 fun_induction vF lt h j with
 | case1=>rfl
 | case3=>rfl
 | case2 h j hj0 hl ih=>rw[ih (by omega),Gu (by omega) hj]
theorem Jz{lt:Nat->Nat->Bool}{n N:Nat}(hN:n<=N)(h:Nat->Nat)(i:Nat)(x:Nat):Mem N (eF lt n h i).1 x↔Mem N h x:=by
 fun_induction eF lt n h i with
 | case1 h i hn _ hl ih =>
   have:=qI lt n h i hn;rw[ih,Gu (by omega) (by omega)]
 | case2=>rfl
 | case3=>rfl
theorem jh{lt:Nat->Nat->Bool}{n:Nat}(h:Nat->Nat)(x y:Nat):Mem (n+1) (vF lt (fun k=>if k=n then x else h k) n) y↔Mem n h y\/y=x:=by
 rw[Uz _ _ (by omega)];constructor
 ·rintro⟨k,hk,rfl⟩;by_cases e:k=n
  ·right;simp[e]
  ·left;exact⟨k,by omega,by simp[e]⟩
 ·rintro (⟨k,hk,rfl⟩ | rfl)
  ·exact⟨k,by omega,by simp[show k≠n by omega]⟩
  ·exact⟨n,by omega,by simp⟩
theorem pR{lt:Nat->Nat->Bool}{n:Nat}(h:Nat->Nat)(i:Nat)(hi:i<=n)(y:Nat):Mem (n+1) (eQ lt h n i) y↔Mem (n+1) h y:=by
 unfold eQ;split
 ·rfl
 ·split
  ·rw[Jz (by omega),Gu (by omega) (by omega)]
  ·rw[Uz _ _ (by omega),Jz (by omega),Gu (by omega) (by omega)]
theorem jY{lt:Nat->Nat->Bool}{n:Nat}(h:Nat->Nat)(i:Nat)(hi:i<=n)(inj:∀a b,a<n+1->b<n+1->eQ lt h n i a=eQ lt h n i b->a=b)(y:Nat) :
 Mem n (eQ lt h n i) y↔Mem (n+1) h y/\y≠h i:=by
 rw[<-pR (lt:=lt) h i hi y];have hl:=rV (lt:=lt) (h:=h) hi;constructor
 ·rintro⟨k,hk,rfl⟩;refine⟨⟨k,by omega,rfl⟩,fun e=>?_⟩;rw[<-hl]at e;have:=inj k n (by omega) (by omega) e;omega
 ·rintro⟨⟨k,hk,rfl⟩,hne⟩;refine⟨k,?_,rfl⟩;by_cases e:k=n
  ·subst e;exact absurd hl hne
  ·omega
attribute [local go_sem ↓] Go.wp_at_zero Go.wp_at_succ
theorem mJ(s:Int)(w:World)(h0:0<=s)(h1:s<=1):CT 154 #[II s] w fun e w'=>e=.returned (II (1-s))/\w'=w:=by
 go_enter Tryz.func154,Tryz.ntmps154;go_wp2;go_ret;exact⟨rfl,rfl⟩
structure iT where
 id:Int
 aG:Int
 sym:ByteArray
 side:Int
 kind:Int
 af:Int
 aK:Int
def iT.val(o:iT):Value:=.agg #[II o.id,II o.aG,.string o.sym,II o.side,II o.kind,II o.af,II o.aK]
def jc(kind side af p:Int):Bool:=if kind=5 then true else if side=0 then decide (p<=af) else decide (af<=p)
theorem qF(o:iT)(p:Int)(w:World):CT 155 #[o.val,II p] w fun e w'=>e=.returned (.bool (jc o.kind o.side o.af p))/\aj aJ w w':=by
 obtain⟨id,aG,sym,side,kind,af,aK⟩:=o;simp only[iT.val];by_cases h1:kind=5
 ·have e1:(kind == 5)=true:=by simp[h1]
  have HG:Hid (jc kind side af p=true):=by show _=_;unfold jc;rw[if_pos h1]
  clear h1;go_enter Tryz.func155,Tryz.ntmps155;go_wp2;go_ret;exact⟨by rw[HG.out];rfl,(aj.refl _ _).alloc _⟩
 ·have e1:(kind == 5)=false:=by simp[h1]
  by_cases h2:side=0
  ·have e2:(side == 0)=true:=by simp[h2]
   have HG:Hid (jc kind side af p=decide (p<=af)):=by show _=_;unfold jc;rw[if_neg h1,if_pos h2]
   clear h1 h2;go_enter Tryz.func155,Tryz.ntmps155;go_wp2;go_ret;exact⟨by rw[HG.out];rfl,(aj.refl _ _).alloc _⟩
  ·have e2:(side == 0)=false:=by simp[h2]
   have HG:Hid (jc kind side af p=decide (af<=p)):=by show _=_;unfold jc;rw[if_neg h1,if_neg h2]
   clear h1 h2;go_enter Tryz.func155,Tryz.ntmps155;go_wp2;go_ret;exact⟨by rw[HG.out];rfl,(aj.refl _ _).alloc _⟩
structure Bk where
 sym:ByteArray
 sl:Nat->Option Addr
 n:Nat->Nat
 cap:Nat->Nat
 h:Nat->Nat->Nat
 places:Int
def Bk.cells(B:Bk):Array Value:=#[.string B.sym,.slice (B.sl 0) (B.n 0) (B.cap 0),.slice (B.sl 1) (B.n 1) (B.cap 1),II B.places]
structure cO(w:World)(bb:Nat)(B:Bk)(om:Nat->Ord):Prop where
 aF:aA w bb B.cells 158
 side:∀s,s<2->jk w (B.sl s) (B.n s) (B.cap s) (B.h s) om
 apart:∀a,ig (B.sl 0)=some a->ig (B.sl 1)≠some a
 vZ:∀k j,k<B.n 0->j<B.n 1->B.h 0 k≠B.h 1 j
theorem cO.aC{w w':World}{bb:Nat}{B:Bk}{om:Nat->Ord}(hb:cO w bb B om){S:Nat->Prop}(k:aj S w w')(hS:∀b,(b=bb\/∃s,s<2/\(ig (B.sl s)=some b\/∃k,k<B.n s/\b=B.h s k))->¬S b):cO w' bb B om :=
 ⟨k.aF hb.aF (hS _ (.inl rfl)),fun s hs=>(hb.side s hs).aC k (fun b h=>hS b (.inr ⟨s,hs,h⟩)),hb.apart,hb.vZ⟩
theorem Bk.vY(B:Bk){s:Nat}(hs:s<2):B.cells[1+s]?=some (.slice (B.sl s) (B.n s) (B.cap s)):=by
 have:s=0\/s=1:=by omega
 rcases this with rfl | rfl <;> rfl
theorem cO.IM{w:World}{bb:Nat}{B:Bk}{om:Nat->Ord}(hb:cO w bb B om){s:Nat}(hs:s<2):w.cell? ⟨bb,1+s,none⟩=some (.slice (B.sl s) (B.n s) (B.cap s)):=(hb.aF.cell _).trans (B.vY hs)
def dJ(B:Bk)(om:Nat->Ord)(o:iT)(s:Nat):Option Nat:=if B.n s=0 then none else if jc o.kind o.side o.af (om (B.h s 0)).af=true then some (B.h s 0) else none
def ji:Option Nat->Value
 | none=>.pointer none
 | some b=>PP b
theorem kR(bb:Nat)(B:Bk)(om:Nat->Ord)(o:iT)(s:Nat)(w:World)(hb:cO w bb B om)(hs:s<2)(ho:o.side=1-(s:Int)) :
 CT 123 #[PP bb,o.val] w fun e w'=>e=.returned (ji (dJ B om o s))/\aj aJ w w':=by
 have hlt:=hb.aF.lt;have hsd:=hb.side s hs;by_cases hn:B.n s=0
 ·have e1:((B.n s:Int) == 0)=true:=by simp[hn]
  have HF:Hid (dJ B om o s=none):=by show _=_;unfold dJ;rw[if_pos hn]
  obtain⟨id,aG,sym,side,kind,af,aK⟩:=o;simp only at ho;subst ho;simp only[iT.val];clear hn;have:s=0\/s=1:=by omega
  rcases this with rfl | rfl
  ·have hcs:CC w bb 1 (.slice (B.sl 0) (B.n 0) (B.cap 0)):=hb.aF.cell 1;go_enter Tryz.func123,Tryz.ntmps123;go_wp2;go_quiet ((go_at_call 154;exact Calls.quiet_of_same (mJ _ _ (by omega) (by omega))));go_wp2;go_quiet (fail);go_wp2;go_ret;exact⟨by rw[HF.out];rfl,(by repeat (first | exact aj.refl _ _ | refine aj.drewN ?_ _ | refine aj.drew ?_ | refine aj.alloc ?_ _))⟩
  ·have hcs:CC w bb 2 (.slice (B.sl 1) (B.n 1) (B.cap 1)):=hb.aF.cell 2;go_enter Tryz.func123,Tryz.ntmps123;go_wp2;go_quiet ((go_at_call 154;exact Calls.quiet_of_same (mJ _ _ (by omega) (by omega))));go_wp2;go_quiet (fail);go_wp2;go_ret;exact⟨by rw[HF.out];rfl,(by repeat (first | exact aj.refl _ _ | refine aj.drewN ?_ _ | refine aj.drew ?_ | refine aj.alloc ?_ _))⟩
 ·have e1:((B.n s:Int) == 0)=false:=by simp;omega
  rcases hsd with⟨_,h0,_⟩ | ⟨ab,hab,hsd⟩
  ·exact absurd h0 hn
  obtain⟨cs,ha,hc,hp⟩:=hsd.sJ;have ca:=(ha.cell 0).trans (hp 0 (by omega));have cp:=(hsd.ord 0 (by omega)).cell 5;simp only[Ord.cells]at cp;simp at cp;have n0:0<B.n s:=by omega
  have la:=ha.lt;have ho0:=hsd.ord 0 (by omega);have lo:=ho0.lt;have HP:=hp 0 (by omega);clear hp hc hsd;obtain⟨id,aG,sym,side,kind,af,aK⟩:=o;simp only at ho;subst ho;simp only[iT.val];cases hg:jc kind (1-(s:Int)) af (om (B.h s 0)).af
  ·have HF:Hid (dJ B om ⟨id,aG,sym,1-(s:Int),kind,af,aK⟩ s=none):=by show _=_;unfold dJ;rw[if_neg hn,if_neg (by simp[hg])]
   clear hn;have:s=0\/s=1:=by omega
   rcases this with rfl | rfl
   ·have GG:jc kind 1 af (om (B.h 0 0)).af=false:=hg;clear hg;have hcs:CC w bb 1 (.slice (some ⟨ab,0,none⟩) (B.n 0) (B.cap 0)):=(hb.aF.cell 1).trans (by rw[<-hab];rfl);go_enter Tryz.func123,Tryz.ntmps123;go_wp2;go_quiet ((go_at_call 154;exact Calls.quiet_of_same (mJ _ _ (by omega) (by omega))));go_wp2;go_region_held3 (fun w'=>w'.cell? ⟨w.heap.size,0,none⟩=some (II id)/\w'.cell? ⟨w.heap.size,1,none⟩=some (II aG)/\w'.cell? ⟨w.heap.size,2,none⟩=some (.string sym)/\w'.cell? ⟨w.heap.size,3,none⟩=some (II 1)/\w'.cell? ⟨w.heap.size,4,none⟩=some (II kind)/\w'.cell? ⟨w.heap.size,5,none⟩=some (II af)/\w'.cell? ⟨w.heap.size,6,none⟩=some (II aK)/\w'.cell? ⟨ab,0,none⟩=some (PP (B.h 0 0))/\w'.cell? ⟨B.h 0 0,5,none⟩=some (II (om (B.h 0 0)).af)) (go_keep)
     (first | (go_at_call 155;refine (qF ⟨id,aG,sym,1,kind,af,aK⟩ _ _).mono ?_;rintro e w2 ⟨rfl,hc2⟩;rw[GG];have k0:=hc2.cell (p:=⟨w.heap.size,0,none⟩) ((aA.new w _ _).cell 0) aU;have k1:=hc2.cell (p:=⟨w.heap.size,1,none⟩) ((aA.new w _ _).cell 1) aU;have k2:=hc2.cell (p:=⟨w.heap.size,2,none⟩) ((aA.new w _ _).cell 2) aU;have k3:=hc2.cell (p:=⟨w.heap.size,3,none⟩) ((aA.new w _ _).cell 3) aU;have k4:=hc2.cell (p:=⟨w.heap.size,4,none⟩) ((aA.new w _ _).cell 4) aU;have k5:=hc2.cell (p:=⟨w.heap.size,5,none⟩) ((aA.new w _ _).cell 5) aU;have k6:=hc2.cell (p:=⟨w.heap.size,6,none⟩) ((aA.new w _ _).cell 6) aU;have k7:=hc2.cell (p:=⟨ab,0,none⟩) (((ha.alloc _).cell 0).trans HP) aU;have k8:CC w2 (B.h 0 0) 5 (II (om (B.h 0 0)).af):=hc2.cell (p:=⟨B.h 0 0,5,none⟩) ((ho0.alloc _).cell 5) aU))
    go_wp2;go_ret;exact⟨by rw[HF.out];rfl,aj.trans (by repeat (first | exact aj.refl _ _ | refine aj.drewN ?_ _ | refine aj.drew ?_ | refine aj.alloc ?_ _)) hc2⟩
   ·have GG:jc kind 0 af (om (B.h 1 0)).af=false:=hg;clear hg;have hcs:CC w bb 2 (.slice (some ⟨ab,0,none⟩) (B.n 1) (B.cap 1)):=(hb.aF.cell 2).trans (by rw[<-hab];rfl);go_enter Tryz.func123,Tryz.ntmps123;go_wp2;go_quiet ((go_at_call 154;exact Calls.quiet_of_same (mJ _ _ (by omega) (by omega))));go_wp2;go_region_held3 (fun w'=>w'.cell? ⟨w.heap.size,0,none⟩=some (II id)/\w'.cell? ⟨w.heap.size,1,none⟩=some (II aG)/\w'.cell? ⟨w.heap.size,2,none⟩=some (.string sym)/\w'.cell? ⟨w.heap.size,3,none⟩=some (II 0)/\w'.cell? ⟨w.heap.size,4,none⟩=some (II kind)/\w'.cell? ⟨w.heap.size,5,none⟩=some (II af)/\w'.cell? ⟨w.heap.size,6,none⟩=some (II aK)/\w'.cell? ⟨ab,0,none⟩=some (PP (B.h 1 0))/\w'.cell? ⟨B.h 1 0,5,none⟩=some (II (om (B.h 1 0)).af)) (go_keep)
     (first | (go_at_call 155;refine (qF ⟨id,aG,sym,0,kind,af,aK⟩ _ _).mono ?_;rintro e w2 ⟨rfl,hc2⟩;rw[GG];have k0:=hc2.cell (p:=⟨w.heap.size,0,none⟩) ((aA.new w _ _).cell 0) aU;have k1:=hc2.cell (p:=⟨w.heap.size,1,none⟩) ((aA.new w _ _).cell 1) aU;have k2:=hc2.cell (p:=⟨w.heap.size,2,none⟩) ((aA.new w _ _).cell 2) aU;have k3:=hc2.cell (p:=⟨w.heap.size,3,none⟩) ((aA.new w _ _).cell 3) aU;have k4:=hc2.cell (p:=⟨w.heap.size,4,none⟩) ((aA.new w _ _).cell 4) aU;have k5:=hc2.cell (p:=⟨w.heap.size,5,none⟩) ((aA.new w _ _).cell 5) aU;have k6:=hc2.cell (p:=⟨w.heap.size,6,none⟩) ((aA.new w _ _).cell 6) aU;have k7:=hc2.cell (p:=⟨ab,0,none⟩) (((ha.alloc _).cell 0).trans HP) aU;have k8:CC w2 (B.h 1 0) 5 (II (om (B.h 1 0)).af):=hc2.cell (p:=⟨B.h 1 0,5,none⟩) ((ho0.alloc _).cell 5) aU))
    go_wp2;go_ret;exact⟨by rw[HF.out];rfl,aj.trans (by repeat (first | exact aj.refl _ _ | refine aj.drewN ?_ _ | refine aj.drew ?_ | refine aj.alloc ?_ _)) hc2⟩
  ·have HF:Hid (dJ B om ⟨id,aG,sym,1-(s:Int),kind,af,aK⟩ s=some (B.h s 0)):=by show _=_;unfold dJ;rw[if_neg hn,if_pos hg]
   clear hn;have:s=0\/s=1:=by omega
   rcases this with rfl | rfl
   ·have GG:jc kind 1 af (om (B.h 0 0)).af=true:=hg;clear hg;have hcs:CC w bb 1 (.slice (some ⟨ab,0,none⟩) (B.n 0) (B.cap 0)):=(hb.aF.cell 1).trans (by rw[<-hab];rfl);go_enter Tryz.func123,Tryz.ntmps123;go_wp2;go_quiet ((go_at_call 154;exact Calls.quiet_of_same (mJ _ _ (by omega) (by omega))));go_wp2;go_region_held3 (fun w'=>w'.cell? ⟨w.heap.size,0,none⟩=some (II id)/\w'.cell? ⟨w.heap.size,1,none⟩=some (II aG)/\w'.cell? ⟨w.heap.size,2,none⟩=some (.string sym)/\w'.cell? ⟨w.heap.size,3,none⟩=some (II 1)/\w'.cell? ⟨w.heap.size,4,none⟩=some (II kind)/\w'.cell? ⟨w.heap.size,5,none⟩=some (II af)/\w'.cell? ⟨w.heap.size,6,none⟩=some (II aK)/\w'.cell? ⟨ab,0,none⟩=some (PP (B.h 0 0))/\w'.cell? ⟨B.h 0 0,5,none⟩=some (II (om (B.h 0 0)).af)) (go_keep)
     (first | (go_at_call 155;refine (qF ⟨id,aG,sym,1,kind,af,aK⟩ _ _).mono ?_;rintro e w2 ⟨rfl,hc2⟩;rw[GG];have k0:=hc2.cell (p:=⟨w.heap.size,0,none⟩) ((aA.new w _ _).cell 0) aU;have k1:=hc2.cell (p:=⟨w.heap.size,1,none⟩) ((aA.new w _ _).cell 1) aU;have k2:=hc2.cell (p:=⟨w.heap.size,2,none⟩) ((aA.new w _ _).cell 2) aU;have k3:=hc2.cell (p:=⟨w.heap.size,3,none⟩) ((aA.new w _ _).cell 3) aU;have k4:=hc2.cell (p:=⟨w.heap.size,4,none⟩) ((aA.new w _ _).cell 4) aU;have k5:=hc2.cell (p:=⟨w.heap.size,5,none⟩) ((aA.new w _ _).cell 5) aU;have k6:=hc2.cell (p:=⟨w.heap.size,6,none⟩) ((aA.new w _ _).cell 6) aU;have k7:=hc2.cell (p:=⟨ab,0,none⟩) (((ha.alloc _).cell 0).trans HP) aU;have k8:CC w2 (B.h 0 0) 5 (II (om (B.h 0 0)).af):=hc2.cell (p:=⟨B.h 0 0,5,none⟩) ((ho0.alloc _).cell 5) aU))
    go_wp2;go_ret;exact⟨by rw[HF.out];rfl,aj.trans (by repeat (first | exact aj.refl _ _ | refine aj.drewN ?_ _ | refine aj.drew ?_ | refine aj.alloc ?_ _)) hc2⟩
   ·have GG:jc kind 0 af (om (B.h 1 0)).af=true:=hg;clear hg;have hcs:CC w bb 2 (.slice (some ⟨ab,0,none⟩) (B.n 1) (B.cap 1)):=(hb.aF.cell 2).trans (by rw[<-hab];rfl);go_enter Tryz.func123,Tryz.ntmps123;go_wp2;go_quiet ((go_at_call 154;exact Calls.quiet_of_same (mJ _ _ (by omega) (by omega))));go_wp2;go_region_held3 (fun w'=>w'.cell? ⟨w.heap.size,0,none⟩=some (II id)/\w'.cell? ⟨w.heap.size,1,none⟩=some (II aG)/\w'.cell? ⟨w.heap.size,2,none⟩=some (.string sym)/\w'.cell? ⟨w.heap.size,3,none⟩=some (II 0)/\w'.cell? ⟨w.heap.size,4,none⟩=some (II kind)/\w'.cell? ⟨w.heap.size,5,none⟩=some (II af)/\w'.cell? ⟨w.heap.size,6,none⟩=some (II aK)/\w'.cell? ⟨ab,0,none⟩=some (PP (B.h 1 0))/\w'.cell? ⟨B.h 1 0,5,none⟩=some (II (om (B.h 1 0)).af)) (go_keep)
     (first | (go_at_call 155;refine (qF ⟨id,aG,sym,0,kind,af,aK⟩ _ _).mono ?_;rintro e w2 ⟨rfl,hc2⟩;rw[GG];have k0:=hc2.cell (p:=⟨w.heap.size,0,none⟩) ((aA.new w _ _).cell 0) aU;have k1:=hc2.cell (p:=⟨w.heap.size,1,none⟩) ((aA.new w _ _).cell 1) aU;have k2:=hc2.cell (p:=⟨w.heap.size,2,none⟩) ((aA.new w _ _).cell 2) aU;have k3:=hc2.cell (p:=⟨w.heap.size,3,none⟩) ((aA.new w _ _).cell 3) aU;have k4:=hc2.cell (p:=⟨w.heap.size,4,none⟩) ((aA.new w _ _).cell 4) aU;have k5:=hc2.cell (p:=⟨w.heap.size,5,none⟩) ((aA.new w _ _).cell 5) aU;have k6:=hc2.cell (p:=⟨w.heap.size,6,none⟩) ((aA.new w _ _).cell 6) aU;have k7:=hc2.cell (p:=⟨ab,0,none⟩) (((ha.alloc _).cell 0).trans HP) aU;have k8:CC w2 (B.h 1 0) 5 (II (om (B.h 1 0)).af):=hc2.cell (p:=⟨B.h 1 0,5,none⟩) ((ho0.alloc _).cell 5) aU))
    go_wp2;go_ret;exact⟨by rw[HF.out];rfl,aj.trans (by repeat (first | exact aj.refl _ _ | refine aj.drewN ?_ _ | refine aj.drew ?_ | refine aj.alloc ?_ _)) hc2⟩
end Go.Proofs.YtigaphnafnpfnaaGreatDoor
