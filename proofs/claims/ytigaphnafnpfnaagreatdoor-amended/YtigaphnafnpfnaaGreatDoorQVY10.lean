import Derived.Test.YtigaphnafnpfnaaGreatDoorQVY7
import Derived.Test.YtigaphnafnpfnaaGreatDoorQVC2
import Derived.Test.YtigaphnafnpfnaaGreatDoorQVX6
import Derived.Test.YtigaphnafnpfnaaGreatDoorQVX11
import Derived.Test.YtigaphnafnpfnaaGreatDoorQVY4
import Derived.Test.YtigaphnafnpfnaaGreatDoorQVZ1
import Derived.Test.YtigaphnafnpfnaaGreatDoorQVU1
import Derived.Test.YtigaphnafnpfnaaGreatDoorQVX16
import Derived.Test.YtigaphnafnpfnaaGreatDoorQVX23
import Derived.Test.YtigaphnafnpfnaaGreatDoorQVX21
import Derived.Test.YtigaphnafnpfnaaGreatDoorQVY5
import Derived.Test.YtigaphnafnpfnaaGreatDoorQVN3
import Derived.Deep.Cut
set_option linter.unusedVariables false
set_option linter.unusedSimpArgs false
set_option maxHeartbeats 8000000
set_option maxRecDepth 100000
namespace Go.Proofs.YtigaphnafnpfnaaGreatDoor
open Go.RowKit
theorem bF.there{p:Nat→Nat}{V:aW}{S:RS}{N:Nat}(h:bF p V S N)(s:ByteArray):iC S.sy s=true↔∃i,i<V.nb∧(V.B i).sym=s:=by
 constructor
 ·intro hx
  rw[iC,List.any_eq_true]at hx
  obtain⟨x,hx,e⟩:=hx
  simp only[decide_eq_true_eq]at e
  subst e
  obtain⟨i,hi⟩:=List.getElem?_of_mem hx
  have hl:=(List.getElem?_eq_some_iff.1 hi).1
  rw[←h.nb]at hl
  have:=h.sym i hl
  rw[hi]at this
  exact⟨i,hl,(Option.some.inj this).symm⟩
 ·rintro⟨i,hi,rfl⟩
  exact Bh (h.sym i hi)
theorem below(f:Nat→Nat):∀n,∃b,∀k,k<n→f k<b
 | 0=>⟨0,fun k hk=>by omega⟩
 | n+1=>by
   obtain⟨b,hb⟩:=below f n
   refine⟨b+f n+1,fun k hk=>?_⟩
   by_cases e:k=n
   ·subst e;omega
   ·have:=hb k (by omega);omega
theorem bF.free{p:Nat→Nat}{V:aW}{S:RS}{N:Nat}(h:bF p V S N):∃b,¬VL V b:=by
 obtain⟨b,hb⟩:=below p S.l.length
 refine⟨b,fun hv=>?_⟩
 obtain⟨k,hk,e⟩:=(h.vl b).1 hv
 have:=hb k hk
 omega
theorem vF{l l':List Ord}(o:Ask):∀n,(∀k,k<n→ah l k=ah l' k)→eu l o n=eu l' o n
 | 0,_=>rfl
 | n+1,h=>by
   have ih:=vF o n (fun k hk=>h k (by omega))
   unfold eu
   rw[ih,h n (by omega)]
   cases hb:eu l' o n with
   | none=>rfl
   | some b =>
     have hlt:=pz l' o n b hb
     simp only
     rw[h b (by omega)]
theorem bF.cross{p:Nat→Nat}{V:aW}{S:RS}{N:Nat}(h:bF p V S N){o:Ask}{ib s t:Nat}(hib:ib<V.nb)(hs:s<2)(ht:t=1-s)(bY:o.sym=(V.B ib).sym)(hside:o.side=(t:Int)):(bK (V.B ib) V.om o s).isSome=(dD S.l o).isSome:=by
 obtain⟨b,hb⟩:=h.free
 have hc:=h.comes hib hs ht bY hside hb
 have hm:∀k,k<(V.B ib).n s→VL V ((V.B ib).h s k):=fun k hk=>(((h.gw.gb ib hib).mem s hs _).1 ⟨k,hk,rfl⟩).1
 have hh:dH (dW (upd V.om b (aI o))) ((V.B ib).n s) ((V.B ib).h s):=((h.gw.gb ib hib).heap s hs).jP (fun j k hj hk=>by
  have h1:(V.B ib).h s j≠b:=fun e=>hb (e▸hm j hj)
  have h2:(V.B ib).h s k≠b:=fun e=>hb (e▸hm k hk)
  unfold dW
  rw[af _ _ h1,af _ _ h2])
 have Aj:=hc.best hs hh
 have l0:(S.fresh.add o).l=S.l++[tK o]:=rfl
 rw[l0]at Aj
 rw[kQ,upd_same]at Aj
 have e1:aV (tK o)=o:=rfl
 have e2:aV (aI o)=o:=rfl
 rw[e1,e2]at Aj
 have e3:dD (S.l++[tK o]) o=dD S.l o:=by
  unfold dD
  rw[List.length_append,List.length_singleton]
  rw[eu]
  have hg:dK o (ah (S.l++[tK o]) S.l.length)=false:=by rw[kQ];rfl
  rw[hg]
  simp only[Bool.false_eq_true,if_false]
  exact vF o _ (fun k hk=>oz hk)
 rw[e3]at Aj
 have e4:bK (V.B ib) (upd V.om b (aI o)) o s=bK (V.B ib) V.om o s:=by
  unfold bK
  by_cases e:(V.B ib).n s=0
  ·rw[if_pos e,if_pos e]
  ·have hne:(V.B ib).h s 0≠b:=fun e2=>hb (e2▸hm 0 (by omega))
   rw[if_neg e,if_neg e,af _ _ hne]
 rw[e4]at Aj
 rw[←Aj]
 cases dD S.l o <;> rfl
def nJ:List Int→Int
 | []=>0
 | x :: l=>x+nJ l
theorem qm(a b:List Int):nJ (a++b)=nJ a+nJ b:=by
 induction a with
 | nil=>simp[nJ]
 | cons x l ih=>simp only[List.cons_append,nJ,ih];omega
theorem Bg{a b:List Int}(h:a.Perm b):nJ a=nJ b:=by
 induction h with
 | nil=>rfl
 | cons x _ ih=>simp only[nJ,ih]
 | swap x y l=>simp only[nJ];omega
 | trans _ _ h1 h2=>rw[h1,h2]
theorem LK{l₁ l₂:List Nat}(h1:l₁.Nodup)(h2:l₂.Nodup)(h:∀a,a∈l₁↔a∈l₂):l₁.Perm l₂:=by
 induction l₁ generalizing l₂ with
 | nil =>
   have:l₂=[]:=by
    cases l₂ with
    | nil=>rfl
    | cons x l=>exact absurd ((h x).2 (by simp)) (by simp)
   rw[this]
 | cons x l ih =>
   have hx:x∈l₂:=(h x).1 (by simp)
   rw[List.nodup_cons]at h1
   have hp:=List.perm_cons_erase hx
   refine List.Perm.trans (List.Perm.cons x (ih h1.2 (h2.erase x) (fun a=>?_))) hp.symm
   rw[h2.mem_erase_iff]
   constructor
   ·intro ha
    exact⟨fun e=>h1.1 (e▸ha),(h a).1 (by simp[ha])⟩
   ·rintro⟨hne,ha⟩
    have:=(h a).2 ha
    simp only[List.mem_cons]at this
    exact this.resolve_left hne
def idx(l:List Ord)(sym:ByteArray)(s:Nat):List Nat:=(List.range l.length).filter (fun k=>decide ((ah l k).sym=sym∧(ah l k).side=(s:Int)∧0<(ah l k).opn))
theorem FW(n:Nat):(List.range n).Pairwise (fun a b=>a≠b∧a<n∧b<n):=by
 rw[List.pairwise_iff_getElem]
 intro a b ha hb hab
 simp only[List.length_range]at ha hb
 simp only[List.getElem_range]
 omega
theorem wM{l:List Ord}{sym:ByteArray}{s k:Nat}:k∈idx l sym s↔(k<l.length∧(ah l k).sym=sym∧(ah l k).side=(s:Int)∧0<(ah l k).opn):=by
 unfold idx
 rw[List.mem_filter,List.mem_range,decide_eq_true_eq]
theorem bF.perm{p:Nat→Nat}{V:aW}{S:RS}{N:Nat}(h:bF p V S N){i s:Nat}(hi:i<V.nb)(hs:s<2):(upto ((V.B i).h s) ((V.B i).n s)).Perm ((idx S.l (V.B i).sym s).map p):=by
 refine LK ?_ ?_ (fun x=>?_)
 ·unfold upto
  refine List.Pairwise.map _ (R:=fun a b=>a≠b∧a<(V.B i).n s∧b<(V.B i).n s) (fun a b hab e=>hab.1 ((h.gw.gb i hi).inj s hs a b hab.2.1 hab.2.2 e)) (FW _)
 ·refine List.Pairwise.map _ (R:=fun a b=>a≠b∧a<S.l.length∧b<S.l.length) (fun a b hab e=>hab.1 (h.inj a b hab.2.1 hab.2.2 e)) ?_
  exact List.Pairwise.filter _ (FW _)
 ·constructor
  ·intro hx
   unfold upto at hx
   rw[List.mem_map]at hx
   obtain⟨k,hk,rfl⟩:=hx
   rw[List.mem_range]at hk
   obtain⟨a,b,c,d⟩:=((h.gw.gb i hi).mem s hs _).1 ⟨k,hk,rfl⟩
   obtain⟨j,hj,e⟩:=(h.vl _).1 a
   obtain⟨_,_,e3,e4,_,_,_,_,e9,_⟩:=dI (h.same j hj)
   rw[e]at e3 e4 e9
   rw[List.mem_map]
   exact⟨j,wM.2 ⟨hj,by rw[←e3];exact b,by rw[←e4];exact c,by rw[←e9];exact d⟩,e⟩
  ·intro hx
   rw[List.mem_map]at hx
   obtain⟨j,hj,rfl⟩:=hx
   obtain⟨hj,b,c,d⟩:=wM.1 hj
   obtain⟨_,_,e3,e4,_,_,_,_,e9,_⟩:=dI (h.same j hj)
   obtain⟨k,hk,e⟩:=((h.gw.gb i hi).mem s hs (p j)).2 ⟨(h.vl _).2 ⟨j,hj,rfl⟩,by rw[e3];exact b,by rw[e4];exact c,by rw[e9];exact d⟩
   unfold upto
   rw[List.mem_map]
   exact⟨k,List.mem_range.2 hk,e.symm⟩
def IE(o:Ask)(x:Ord):Int:=if x.owner≠o.owner∧eQ o.kind o.side o.price x.price=true then x.opn else 0
theorem Gy(om:Nat→Ord)(h:Nat→Nat)(o:Ask):∀n,sF om h o n=nJ ((upto h n).map (fun x=>IE o (om x)))
 | 0=>rfl
 | n+1=>by
   rw[sF,Gy om h o n]
   unfold upto
   rw[List.range_succ,List.map_append,List.map_append,qm]
   simp only[List.map_cons,List.map_nil,nJ,IE]
   omega
theorem FM(l:List Ord)(o:Ask)(s:Nat)(hs:s<2)(hside:o.side=1-(s:Int))(sd:∀k,k<l.length→(ah l k).side=0∨(ah l k).side=1)(op:∀k,k<l.length→0≤(ah l k).opn):∀n,n≤l.length→iZ l o n=nJ (((List.range n).filter (fun k=>decide ((ah l k).sym=o.sym∧(ah l k).side=(s:Int)∧0<(ah l k).opn))).map (fun k=>IE o (ah l k)))
 | 0,_=>rfl
 | n+1,hn=>by
   rw[iZ,FM l o s hs hside sd op n (by omega),List.range_succ,List.filter_append,List.map_append,qm]
   congr 1
   have h1:=sd n (by omega)
   have h2:=op n (by omega)
   unfold dK
   by_cases c1:(ah l n).sym=o.sym∧(ah l n).side=(s:Int)∧0<(ah l n).opn
   ·obtain⟨a,b,c⟩:=c1
    have hne:¬(ah l n).side=o.side:=by omega
    have hop:¬(ah l n).opn=0:=by omega
    rw[List.filter_cons_of_pos (by simp[a,b,c])]
    simp only[List.filter_nil,List.map_cons,List.map_nil,nJ,IE,Int.add_zero]
    simp only[Bool.and_eq_true,Bool.not_eq_true',beq_eq_false_iff_ne,ne_eq,decide_eq_true_eq,a,hne,hop,not_false_eq_true,true_and,and_true]
    by_cases c2:eQ o.kind o.side o.price (ah l n).price=true <;> by_cases c3:(ah l n).owner=o.owner <;> simp[c2,c3]
   ·rw[List.filter_cons_of_neg (by simpa using c1)]
    simp only[List.filter_nil,List.map_nil,nJ]
    rw[if_neg]
    rintro⟨hg,_⟩
    simp only[Bool.and_eq_true,Bool.not_eq_true',beq_eq_false_iff_ne,ne_eq,decide_eq_true_eq]at hg
    obtain⟨⟨⟨g1,g2⟩,g3⟩,_⟩:=hg
    exact c1 ⟨g2,by omega,by omega⟩
theorem bF.whole{p:Nat→Nat}{V:aW}{S:RS}{N:Nat}(h:bF p V S N){o:Ask}{ib s t:Nat}(hib:ib<V.nb)(hs:s<2)(ht:t=1-s)(bY:o.sym=(V.B ib).sym)(hside:o.side=(t:Int)):sF V.om ((V.B ib).h s) o ((V.B ib).n s)=iZ S.l o S.l.length:=by
 rw[Gy,FM S.l o s hs (by omega) (fun k hk=>h.side hk) (fun k hk=>(h.opn hk).1) _ (Nat.le_refl _),Bg (List.Perm.map _ (h.perm hib hs)),List.map_map,bY]
 have:∀k∈idx S.l (V.B ib).sym s,((fun x=>IE o (V.om x))∘p) k=IE o (ah S.l k):=fun k hk=>by
  obtain⟨_,e2,_,_,_,e6,_,_,e9,_⟩:=dI (h.same k (wM.1 hk).1)
  simp only[Function.comp,IE,e2,e6,e9]
 rw[List.map_congr_left this]
 rfl
def vZ(s:Int)(p q:Int):Prop:=if s=0 then q<p else p<q
theorem lZ(s p:Int):¬vZ s p p:=by unfold vZ;split <;> omega
theorem Qx{s p q:Int}(h:¬vZ s p q)(hne:p≠q):vZ s q p:=by unfold vZ at *;split at h <;> split <;> omega
theorem zX{s p q r:Int}(h:vZ s p q)(k:vZ s q r):vZ s p r:=by unfold vZ at *;split at h <;> split at k <;> (try split) <;> omega
theorem Nz{s p q:Int}(h:vZ s p q):¬vZ s q p:=by unfold vZ at *;split at h <;> split <;> omega
def po(o:Ord):Int × Int:=(o.price,o.opn)
def qs(p:Int)(L:List (Int × Int)):Int:=nJ ((L.filter (fun x=>decide (x.1=p))).map (·.2))
def cn(p:Int)(L:List (Int × Int)):Int:=((L.filter (fun x=>decide (x.1=p))).length:Int)
theorem kR(p:Int)(L:List (Int × Int))(a:Int × Int):qs p (L++[a])=qs p L+(if a.1=p then a.2 else 0):=by
 unfold qs
 rw[List.filter_append,List.map_append,qm]
 congr 1
 by_cases h:a.1=p <;> simp[h,nJ]
theorem kN(p:Int)(L:List (Int × Int))(a:Int × Int):cn p (L++[a])=cn p L+(if a.1=p then 1 else 0):=by
 unfold cn
 rw[List.filter_append,List.length_append]
 by_cases h:a.1=p <;> simp[h]
theorem tV{p:Int}{L:List (Int × Int)}(h:∀a∈L,a.1≠p):qs p L=0∧cn p L=0:=by
 have:L.filter (fun x=>decide (x.1=p))=[]:=by
  rw[List.filter_eq_nil_iff]
  intro a ha
  simpa using h a ha
 unfold qs cn
 rw[this]
 exact⟨rfl,rfl⟩
theorem Rq(p:Int){L L':List (Int × Int)}(h:L.Perm L'):qs p L=qs p L'∧cn p L=cn p L':=by
 unfold qs cn
 have:=h.filter (fun x=>decide (x.1=p))
 exact⟨Bg (this.map _),by rw[this.length_eq]⟩
theorem Yp(p:Int)(L:List (Int × Int))(h:∀a∈L,0≤a.2∧a.2≤1000000000000000):0≤qs p L∧qs p L≤L.length * 1000000000000000∧0≤cn p L∧cn p L≤L.length:=by
 induction L with
 | nil=>simp[qs,cn,nJ]
 | cons a L ih =>
   have h1:=h a (by simp)
   have h2:=ih (fun x hx=>h x (by simp[hx]))
   by_cases e:a.1=p
   ·have e1:qs p (a :: L)=a.2+qs p L:=by unfold qs;rw[List.filter_cons_of_pos (by simpa using e)];rfl
    have e2:cn p (a :: L)=cn p L+1:=by unfold cn;rw[List.filter_cons_of_pos (by simpa using e)];simp
    rw[e1,e2,List.length_cons]
    push_cast
    omega
   ·have e1:qs p (a :: L)=qs p L:=by unfold qs;rw[List.filter_cons_of_neg (by simpa using e)]
    have e2:cn p (a :: L)=cn p L:=by unfold cn;rw[List.filter_cons_of_neg (by simpa using e)]
    rw[e1,e2,List.length_cons]
    push_cast
    omega
theorem NL{p:Int}{L:List (Int × Int)}(h:0<cn p L):∃a∈L,a.1=p:=by
 by_cases h0:∀a∈L,a.1≠p
 ·rw[(tV h0).2]at h;omega
 ·simp only[ne_eq,Classical.not_forall,Classical.not_not,not_imp]at h0
  obtain⟨a,ha,e⟩:=h0
  exact⟨a,ha,e⟩
structure WG(s:Int)(A:List (Int × Int))(ls:List fJ):Prop where
 ord:ls.Pairwise (fun a b=>vZ s a.price b.price)
 val:∀l∈ls,l.qty=qs l.price A∧l.num=cn l.price A∧0<l.num
 all:∀a∈A,∃l∈ls,l.price=a.1
theorem Rf(s:Int)(os:List Ord)(hl:os.length≤1000)(hb:∀o∈os,0≤o.opn∧o.opn≤1000000000000000)(hs:os.Pairwise (fun a b=>¬vZ s b.price a.price)) :
 WG s (os.map po) (gu os):=by
 have gen:∀(A B:List Ord) (ls:List fJ),A++B=os→WG s (A.map po) ls→(∀l,ls.getLast?=some l→∃o,A.getLast?=some o∧o.price=l.price)→(ls=[]→A=[])→WG s (os.map po) (B.foldl iq ls):=by
  intro A B
  induction B generalizing A with
  | nil=>intro ls e h _ _;rw[List.append_nil]at e;subst e;exact h
  | cons o B ih =>
    intro ls e h hlast hnil
    have e':(A++[o])++B=os:=by rw[←e];simp
    rw[List.foldl_cons]
    have hA:∀x∈A,¬vZ s o.price x.price:=by
     intro x hx
     rw[←e',List.append_assoc,List.pairwise_append]at hs
     exact hs.2.2 x hx o (by simp)
    have ho:=hb o (by rw[←e];simp)
    have Ue:∀a∈A.map po,0≤a.2∧a.2≤1000000000000000:=by
     intro a ha
     rw[List.mem_map]at ha
     obtain⟨x,hx,rfl⟩:=ha
     exact hb x (by rw[←e];simp[hx])
    have hlA:(A.map po).length≤1000:=by rw[List.length_map];rw[←e,List.length_append]at hl;omega
    have hmap:(A++[o]).map po=A.map po++[(o.price,o.opn)]:=by simp[po]
    have hall:∀l∈ls,¬vZ s o.price l.price:=by
     intro l hl2
     obtain⟨_,h2,h3⟩:=h.val l hl2
     obtain⟨a,ha,e2⟩:=NL (by rw[←h2];exact h3)
     rw[List.mem_map]at ha
     obtain⟨x,hx,rfl⟩:=ha
     have:=hA x hx
     rw[←e2];exact this
    refine ih (A++[o]) (iq ls o) e' ?_ ?_ ?_
    ·rcases List.eq_nil_or_concat ls with rfl | ⟨ini,l,e3⟩
     ·have:A=[]:=hnil rfl
      subst this
      refine⟨by simp[iq],fun l hl2=>?_,fun a ha=>?_⟩
      ·simp only[iq,List.getLast?_nil,List.mem_singleton]at hl2
       subst hl2
       simp only[List.nil_append,List.map_cons,List.map_nil]
       have q1:=kR o.price [] (po o)
       have q2:=kN o.price [] (po o)
       rw[List.nil_append]at q1 q2
       rw[q1,q2]
       refine⟨?_,?_,by decide⟩
       ·rw[aF (by omega) (by omega)];simp[po,qs,nJ]
       ·simp[po,cn]
      ·simp only[List.nil_append,List.map_cons,List.map_nil,List.mem_singleton]at ha
       subst ha
       exact⟨⟨o.price,wrap64 o.opn,1⟩,by simp[iq],rfl⟩
     ·rw[List.concat_eq_append]at e3
      subst e3
      have hv:=h.val l (by simp)
      have hord:=h.ord
      rw[List.pairwise_append]at hord
      obtain⟨o1,_,o3⟩:=hord
      have qb:=Yp l.price (A.map po) Ue
      by_cases ep:l.price=o.price
      ·rw[mg _ _ _ ep]
       have w1:wrap64 (l.qty+o.opn)=qs l.price (A.map po)+o.opn:=by rw[hv.1];exact aF (by omega) (by omega)
       have w2:wrap64 (l.num+1)=cn l.price (A.map po)+1:=by rw[hv.2.1];exact aF (by omega) (by omega)
       refine⟨?_,fun x hx=>?_,fun a ha=>?_⟩
       ·rw[List.pairwise_append]
        exact⟨o1,List.pairwise_singleton _ _,fun a ha b hb2=>by rw[List.mem_singleton]at hb2;subst hb2;exact o3 a ha l (by simp)⟩
       ·rw[List.mem_append,List.mem_singleton]at hx
        rw[hmap]
        rcases hx with hx | hx
        ·have hne:¬o.price=x.price:=fun e4=>by
          have:=o3 x hx l (by simp)
          rw[←e4,←ep]at this
          exact lZ _ _ this
         have:=h.val x (by simp[hx])
         rw[kR,kN,if_neg hne,if_neg hne,Int.add_zero,Int.add_zero]
         exact this
        ·subst hx
         simp only
         rw[kR,kN,if_pos ep.symm,if_pos ep.symm]
         exact⟨w1,w2,by rw[w2];omega⟩
       ·rw[hmap,List.mem_append,List.mem_singleton]at ha
        rcases ha with ha | ha
        ·obtain⟨x,hx,e4⟩:=h.all a ha
         rw[List.mem_append,List.mem_singleton]at hx
         rcases hx with hx | hx
         ·exact⟨x,by simp[hx],e4⟩
         ·subst hx
          exact⟨⟨x.price,wrap64 (x.qty+o.opn),wrap64 (x.num+1)⟩,by simp,e4⟩
        ·subst ha
         exact⟨⟨l.price,wrap64 (l.qty+o.opn),wrap64 (l.num+1)⟩,by simp,ep⟩
      ·rw[kP _ _ _ ep]
       have hbl:vZ s l.price o.price:=Qx (hall l (by simp)) (fun x=>ep x.symm)
       have Uf:∀x∈ini++[l],vZ s x.price o.price:=by
        intro x hx
        rw[List.mem_append,List.mem_singleton]at hx
        rcases hx with hx | hx
        ·exact zX (o3 x hx l (by simp)) hbl
        ·rw[hx];exact hbl
       have hno:∀a∈A.map po,a.1≠o.price:=by
        intro a ha e4
        obtain⟨x,hx,e5⟩:=h.all a ha
        have:=Uf x hx
        rw[e5,e4]at this
        exact lZ _ _ this
       refine⟨?_,fun x hx=>?_,fun a ha=>?_⟩
       ·rw[List.pairwise_append]
        exact⟨h.ord,List.pairwise_singleton _ _,fun a ha b hb2=>by rw[List.mem_singleton]at hb2;subst hb2;exact Uf a ha⟩
       ·rw[List.mem_append,List.mem_singleton]at hx
        rw[hmap]
        rcases hx with hx | hx
        ·have hne:¬o.price=x.price:=fun e4=>by
          have:=Uf x hx
          rw[←e4]at this
          exact lZ _ _ this
         rw[kR,kN,if_neg hne,if_neg hne,Int.add_zero,Int.add_zero]
         exact h.val x hx
        ·subst hx
         simp only
         rw[kR,kN,if_pos rfl,if_pos rfl,(tV hno).1,(tV hno).2]
         refine⟨?_,rfl,by decide⟩
         rw[aF (by omega) (by omega)];simp
       ·rw[hmap,List.mem_append,List.mem_singleton]at ha
        rcases ha with ha | ha
        ·obtain⟨x,hx,e4⟩:=h.all a ha
         exact⟨x,by rw[List.mem_append];exact .inl hx,e4⟩
        ·subst ha
         exact⟨⟨o.price,wrap64 o.opn,1⟩,by simp,rfl⟩
    ·intro l hl2
     refine⟨o,by simp,?_⟩
     rcases List.eq_nil_or_concat ls with rfl | ⟨ini,l0,e3⟩
     ·simp[iq]at hl2;rw[←hl2]
     ·rw[List.concat_eq_append]at e3
      subst e3
      by_cases ep:l0.price=o.price
      ·rw[mg _ _ _ ep]at hl2;simp at hl2;rw[←hl2];exact ep.symm
      ·rw[kP _ _ _ ep]at hl2;simp at hl2;rw[←hl2]
    ·intro hx
     exfalso
     rcases List.eq_nil_or_concat ls with rfl | ⟨ini,l0,e3⟩
     ·simp[iq]at hx
     ·rw[List.concat_eq_append]at e3
      subst e3
      by_cases ep:l0.price=o.price
      ·rw[mg _ _ _ ep]at hx;simp at hx
      ·rw[kP _ _ _ ep]at hx;simp at hx
 exact gen [] os [] rfl ⟨List.Pairwise.nil,fun l hl2=>absurd hl2 (by simp),fun a ha=>absurd ha (by simp)⟩ (fun l hl2=>by simp at hl2) (fun _=>rfl)
def WR(s:Int)(b:fJ)(o:Ord):fJ:=if sV s b o.price=true then lK ⟨o.price,0,0⟩ o else if o.price=b.price then lK b o else b
def Et(l:List Ord)(sym:ByteArray)(s:Int)(last:Option Int)(i:Nat):List Ord:=((List.range i).filter (fun k=>decide ((ah l k).sym=sym∧(ah l k).side=s∧(ah l k).opn≠0∧kU s last (ah l k).price=true))).map (ah l)
theorem Eh(l:List Ord)(sym:ByteArray)(s:Int)(last:Option Int):∀i,GR l sym s last i=(Et l sym s last i).foldl (WR s) ⟨0,0,0⟩
 | 0=>rfl
 | i+1=>by
   rw[GR,Eh l sym s last i]
   unfold Et
   rw[List.range_succ,List.filter_append,List.map_append,List.foldl_append]
   unfold jE
   by_cases h:(ah l i).sym=sym∧(ah l i).side=s∧(ah l i).opn≠0
   ·obtain⟨h1,h2,h3⟩:=h
    rw[if_neg (by simp[h1,h2,h3])]
    by_cases h4:kU s last (ah l i).price=true
    ·rw[if_neg (by simp[h4]),List.filter_cons_of_pos (by simp[h1,h2,h3,h4])]
     rfl
    ·rw[if_pos (by simpa using h4),List.filter_cons_of_neg (by simp[h4])]
     rfl
   ·rw[if_pos (by by_cases a:(ah l i).sym=sym <;> by_cases b:(ah l i).side=s <;> by_cases c:(ah l i).opn=0 <;> simp[a,b,c]at h ⊢),List.filter_cons_of_neg (by
     simp only[decide_eq_true_eq]
     rintro⟨a,b,c,_⟩
     exact h ⟨a,b,c⟩)]
    rfl
def Jj(s:Int)(C:List (Int × Int))(b:fJ):Prop :=
 (C=[]∧b=⟨0,0,0⟩)∨(C≠[]∧(∃a∈C,a.1=b.price)∧(∀a∈C,¬vZ s a.1 b.price)∧b.qty=qs b.price C∧b.num=cn b.price C∧0<b.num)
theorem Kz(s:Int)(hs:s=0∨s=1)(os:List Ord)(hl:os.length≤1000)(hb:∀o∈os,0≤o.opn∧o.opn≤1000000000000000):Jj s (os.map po) (os.foldl (WR s) ⟨0,0,0⟩):=by
 have gen:∀(A B:List Ord) (b:fJ),A++B=os→Jj s (A.map po) b→Jj s (os.map po) (B.foldl (WR s) b):=by
  intro A B
  induction B generalizing A with
  | nil=>intro b e h;rw[List.append_nil]at e;subst e;exact h
  | cons o B ih =>
    intro b e h
    have e':(A++[o])++B=os:=by rw[←e];simp
    rw[List.foldl_cons]
    have ho:=hb o (by rw[←e];simp)
    have Ue:∀a∈A.map po,0≤a.2∧a.2≤1000000000000000:=by
     intro a ha
     rw[List.mem_map]at ha
     obtain⟨x,hx,rfl⟩:=ha
     exact hb x (by rw[←e];simp[hx])
    have hlA:(A.map po).length≤1000:=by rw[List.length_map];rw[←e,List.length_append]at hl;omega
    have hmap:(A++[o]).map po=A.map po++[(o.price,o.opn)]:=by simp[po]
    have w0:lK ⟨o.price,0,0⟩ o=⟨o.price,o.opn,1⟩:=by
     rw[UN rfl rfl,aF (by omega) (by omega)]
    refine ih (A++[o]) _ e' ?_
    right
    rw[hmap]
    refine⟨by simp,?_⟩
    rcases h with⟨h1,h2⟩ | ⟨h1,⟨a0,ha0,e0⟩,h3,h4,h5,h6⟩
    ·subst h2
     have hb1:sV s ⟨0,0,0⟩ o.price=true:=rfl
     unfold WR
     rw[if_pos hb1,w0]
     rw[h1]
     simp only[List.nil_append]
     have q1:=kR o.price [] (o.price,o.opn)
     have q2:=kN o.price [] (o.price,o.opn)
     rw[List.nil_append]at q1 q2
     refine⟨⟨_,List.mem_singleton.2 rfl,rfl⟩,fun a ha=>?_,?_,?_,by show (0:Int)<1;decide⟩
     ·rw[List.mem_singleton]at ha;subst ha;exact lZ _ _
     ·rw[q1];simp[qs,nJ]
     ·rw[q2];simp[cn]
    ·have hnum:b.num≠0:=by omega
     have hbt:sV s b o.price=true↔vZ s o.price b.price:=by
      unfold sV vZ
      rw[if_neg hnum]
      split <;> simp
     have qb:=Yp b.price (A.map po) Ue
     unfold WR
     by_cases hbb:vZ s o.price b.price
     ·rw[if_pos (hbt.2 hbb),w0]
      have hno:∀a∈A.map po,a.1≠o.price:=by
       intro a ha e4
       have:=h3 a ha
       rw[e4]at this
       exact this hbb
      refine⟨⟨_,List.mem_append.2 (.inr (List.mem_singleton.2 rfl)),rfl⟩,fun a ha=>?_,?_,?_,by show (0:Int)<1;decide⟩
      ·rw[List.mem_append,List.mem_singleton]at ha
       rcases ha with ha | ha
       ·exact fun hx=>h3 a ha (zX hx hbb)
       ·subst ha;exact lZ _ _
      ·rw[kR,(tV hno).1];simp
      ·rw[kN,(tV hno).2];simp
     ·rw[if_neg (fun hx=>hbb (hbt.1 hx))]
      by_cases Vq:o.price=b.price
      ·rw[if_pos Vq]
       have w1:lK b o=⟨b.price,qs b.price (A.map po)+o.opn,cn b.price (A.map po)+1⟩:=by
        unfold lK
        rw[h4,h5,aF (x:=qs b.price (A.map po)+o.opn) (by omega) (by omega),aF (x:=cn b.price (A.map po)+1) (by omega) (by omega)]
       rw[w1]
       refine⟨⟨a0,List.mem_append.2 (.inl ha0),e0⟩,fun a ha=>?_,?_,?_,by show 0<cn b.price (A.map po)+1;omega⟩
       ·rw[List.mem_append,List.mem_singleton]at ha
        rcases ha with ha | ha
        ·exact h3 a ha
        ·subst ha;exact hbb
       ·simp only;rw[kR,if_pos Vq]
       ·simp only;rw[kN,if_pos Vq]
      ·rw[if_neg Vq]
       refine⟨⟨a0,List.mem_append.2 (.inl ha0),e0⟩,fun a ha=>?_,?_,?_,h6⟩
       ·rw[List.mem_append,List.mem_singleton]at ha
        rcases ha with ha | ha
        ·exact h3 a ha
        ·subst ha;exact hbb
       ·rw[kR,if_neg Vq,Int.add_zero];exact h4
       ·rw[kN,if_neg Vq,Int.add_zero];exact h5
 exact gen [] os _ rfl (.inl ⟨rfl,rfl⟩)
theorem RI{s:Int}{last p:Int}:kU s (some last) p=true↔vZ s last p:=by
 unfold kU vZ
 simp only
 split <;> simp
theorem QC(l:List Ord)(sym:ByteArray)(s:Nat)(last:Option Int)(hop:∀k,k<l.length→0≤(ah l k).opn):(Et l sym (s:Int) last l.length).map po=(((idx l sym s).map (ah l)).map po).filter (fun a=>kU (s:Int) last a.1):=by
 unfold Et idx
 rw[List.map_map,List.map_map,List.filter_map,List.filter_filter]
 congr 1
 refine List.filter_congr (fun k hk=>?_)
 rw[List.mem_range]at hk
 have:=hop k hk
 simp only[Function.comp,po]
 have e:((ah l k).opn≠0)↔0<(ah l k).opn:=by omega
 cases hw:kU (s:Int) last (ah l k).price <;> simp[hw,e]
theorem getLast_take{ls:List fJ}{j:Nat}(hj:j<ls.length):(ls.take (j+1)).getLast?=ls[j]?:=by
 rw[List.take_add_one,List.getElem?_eq_getElem hj,Option.toList_some,List.getLast?_concat]
theorem AA(s:Nat)(hs:s<2)(l:List Ord)(sym:ByteArray)(A:List (Int × Int))(ls:List fJ)(hlen:l.length≤1000)(hop:∀k,k<l.length→0≤(ah l k).opn∧(ah l k).opn≤1000000000000000)(hA:A.Perm (((idx l sym s).map (ah l)).map po))(h:WG (s:Int) A ls)(j:Nat)(hj:j≤ls.length) :
 (j=ls.length→(iV l sym (s:Int) (ls.take j)).num=0)∧∀x,ls[j]?=some x→iV l sym (s:Int) (ls.take j)=x∧x.num≠0:=by
 have hs':(s:Int)=0∨(s:Int)=1:=by omega
 have hc0:=QC l sym s (dQ (ls.take j)) (fun k hk=>(hop k hk).1)
 have hlc:(Et l sym (s:Int) (dQ (ls.take j)) l.length).length≤1000:=by
  unfold Et
  rw[List.length_map]
  have:=List.length_filter_le (fun k=>decide ((ah l k).sym=sym∧(ah l k).side=(s:Int)∧(ah l k).opn≠0∧kU (s:Int) (dQ (ls.take j)) (ah l k).price=true)) (List.range l.length)
  rw[List.length_range]at this
  omega
 have hbc:∀o∈Et l sym (s:Int) (dQ (ls.take j)) l.length,0≤o.opn∧o.opn≤1000000000000000:=by
  intro o ho
  unfold Et at ho
  rw[List.mem_map]at ho
  obtain⟨k,hk,rfl⟩:=ho
  rw[List.mem_filter,List.mem_range]at hk
  exact hop k hk.1
 have hsp:=Kz (s:Int) hs' _ hlc hbc
 rw[←Eh]at hsp
 change Jj (s:Int) _ (iV l sym (s:Int) (ls.take j)) at hsp
 rw[hc0]at hsp
 generalize hX:((idx l sym s).map (ah l)).map po=X at *
 have hlook:∀a∈A,(kU (s:Int) (dQ (ls.take j)) a.1=true↔∃i x,j≤i∧ls[i]?=some x∧x.price=a.1):=by
  intro a ha
  obtain⟨x,hx,e⟩:=h.all a ha
  obtain⟨i,hi⟩:=List.getElem?_of_mem hx
  have hil:=(List.getElem?_eq_some_iff.1 hi).1
  have hpw:=List.pairwise_iff_getElem.1 h.ord
  have uniq:∀i' x',ls[i']?=some x'→x'.price=a.1→i'=i:=by
   intro i' x' hi' e'
   have Xy:=(List.getElem?_eq_some_iff.1 hi').1
   have g1:=(List.getElem?_eq_some_iff.1 hi).2
   have g2:=(List.getElem?_eq_some_iff.1 hi').2
   rcases Nat.lt_trichotomy i' i with c | c | c
   ·have:=hpw i' i Xy hil c
    rw[g1,g2,e,e']at this
    exact absurd this (lZ _ _)
   ·exact c
   ·have:=hpw i i' hil Xy c
    rw[g1,g2,e,e']at this
    exact absurd this (lZ _ _)
  cases j with
  | zero =>
    have:dQ (ls.take 0)=none:=by simp[dQ]
    rw[this]
    exact⟨fun _=>⟨i,x,by omega,hi,e⟩,fun _=>rfl⟩
  | succ j =>
    have hjl:j<ls.length:=by omega
    have hlp:dQ (ls.take (j+1))=some ls[j].price:=by
     unfold dQ
     rw[getLast_take hjl,List.getElem?_eq_getElem hjl]
     rfl
    rw[hlp,RI]
    have g1:=(List.getElem?_eq_some_iff.1 hi).2
    constructor
    ·intro hb
     refine⟨i,x,?_,hi,e⟩
     rcases Nat.lt_or_ge j i with c | c
     ·omega
     ·exfalso
      rcases Nat.lt_or_ge i j with c2 | c2
      ·have:=hpw i j hil hjl c2
       rw[g1,e]at this
       exact Nz hb this
      ·obtain rfl:i=j:=by omega
       rw[g1,e]at hb
       exact lZ _ _ hb
    ·rintro⟨i',x',h1,h2,h3⟩
     have e4:=uniq i' x' h2 h3
     subst e4
     have:=hpw j i' hjl hil (by omega)
     rw[g1,e]at this
     exact this
 have Y3:∀a,a∈A↔a∈X:=fun a=>hA.mem_iff
 constructor
 ·intro hjl
  rcases hsp with⟨_,e⟩ | ⟨hne,⟨a0,ha0,e0⟩,_⟩
  ·rw[e]
  ·exfalso
   rw[List.mem_filter]at ha0
   obtain⟨i,x,h1,h2,_⟩:=(hlook a0 ((Y3 a0).2 ha0.1)).1 ha0.2
   have:=(List.getElem?_eq_some_iff.1 h2).1
   omega
 ·intro x hx
  have hxl:=(List.getElem?_eq_some_iff.1 hx).1
  have hxm:=List.mem_of_getElem? hx
  obtain⟨v1,v2,v3⟩:=h.val x hxm
  obtain⟨a1,ha1,e1⟩:=NL (by rw[←v2];exact v3)
  have hin:a1∈X.filter (fun a=>kU (s:Int) (dQ (ls.take j)) a.1):=by
   rw[List.mem_filter]
   exact⟨(Y3 a1).1 ha1,(hlook a1 ha1).2 ⟨j,x,Nat.le_refl _,hx,e1.symm⟩⟩
  rcases hsp with⟨e,_⟩ | ⟨hne,⟨a0,ha0,e0⟩,hb3,hb4,hb5,hb6⟩
  ·rw[e]at hin;simp at hin
  ·generalize iV l sym (s:Int) (ls.take j)=b at *
   rw[List.mem_filter]at ha0
   obtain⟨i,y,h1,h2,h3⟩:=(hlook a0 ((Y3 a0).2 ha0.1)).1 ha0.2
   have hpw:=List.pairwise_iff_getElem.1 h.ord
   have hil:=(List.getElem?_eq_some_iff.1 h2).1
   have ei:i=j:=by
    rcases Nat.lt_or_ge j i with c | c
    ·exfalso
     have:=hpw j i hxl hil c
     rw[(List.getElem?_eq_some_iff.1 hx).2,(List.getElem?_eq_some_iff.1 h2).2,h3,e0]at this
     have h4:=hb3 a1 hin
     rw[e1]at h4
     exact h4 this
    ·omega
   subst ei
   rw[hx]at h2
   have exy:=Option.some.inj h2
   subst exy
   have ep:b.price=x.price:=by rw[h3,e0]
   have hf:qs b.price (X.filter (fun a=>kU (s:Int) (dQ (ls.take i)) a.1))=qs b.price X∧cn b.price (X.filter (fun a=>kU (s:Int) (dQ (ls.take i)) a.1))=cn b.price X:=by
    unfold qs cn
    have:(X.filter (fun a=>kU (s:Int) (dQ (ls.take i)) a.1)).filter (fun x=>decide (x.1=b.price))=X.filter (fun x=>decide (x.1=b.price)):=by
     rw[List.filter_filter]
     refine List.filter_congr (fun a ha=>?_)
     by_cases ea:a.1=b.price
     ·rw[(hlook a ((Y3 a).2 ha)).2 ⟨i,x,Nat.le_refl _,hx,by rw[ea,ep]⟩]
      simp
     ·simp[ea]
    rw[this]
    exact⟨rfl,rfl⟩
   obtain⟨pq,pc⟩:=Rq b.price hA
   refine⟨?_,by omega⟩
   obtain⟨bp,bq,bn⟩:=b
   obtain⟨xp,xq,xn⟩:=x
   simp only at *
   subst ep
   rw[hb4,hf.1,←pq,←v1,hb5,hf.2,←pc,←v2]
theorem KA(s:Nat)(hs:s<2)(l:List Ord)(sym:ByteArray)(A:List (Int × Int))(ls:List fJ)(hlen:l.length≤1000)(hop:∀k,k<l.length→0≤(ah l k).opn∧(ah l k).opn≤1000000000000000)(hA:A.Perm (((idx l sym s).map (ah l)).map po))(h:WG (s:Int) A ls):kJ l sym (s:Int) ls.length [] ls:=by
 have gen:∀k j,j+k=ls.length→kJ l sym (s:Int) k (ls.take j) ls:=by
  intro k
  induction k with
  | zero =>
    intro j hj
    have hn:=(AA s hs l sym A ls hlen hop hA h j (by omega)).1 (by omega)
    have e:ls.take j=ls:=List.take_of_length_le (by omega)
    have:=kJ.stop (l:=l) (sym:=sym) (s:=(s:Int)) 0 (ls.take j) hn
    rw[e]at this ⊢
    exact this
  | succ k ih =>
    intro j hj
    obtain⟨x,hx⟩:∃x,ls[j]?=some x:=⟨_,List.getElem?_eq_getElem (by omega)⟩
    obtain⟨e1,e2⟩:=(AA s hs l sym A ls hlen hop hA h j (by omega)).2 x hx
    refine kJ.go k _ _ (by rw[e1];exact e2) ?_
    rw[e1]
    have:=ih (j+1) (by omega)
    rw[List.take_add_one,hx]at this
    exact this
 have:=gen ls.length 0 (by omega)
 rw[List.take_zero]at this
 exact this
open Go.RowKit Go.Maps
theorem UR(s:ByteArray)(i:Nat):(oU s i).2≤2:=by
 unfold oU
 split
 ·simp
 ·split <;> simp
theorem yw(s:ByteArray):∀f i n,jI s f i n=true→n≤6∧s.size≤i+2 * (6-n)
 | 0,i,n,h=>by simp[jI]at h
 | f+1,i,n,h=>by
   unfold jI at h
   split at h
   ·split at h
    ·have:=yw s f _ _ h
     have h2:=UR s i
     omega
    ·simp at h
   ·simp at h
    omega
theorem Lt{s:ByteArray}(h:nameB s=true):s.size≤12:=by
 have:=yw s _ _ _ h
 omega
def O4:Ask:=⟨0,0,⟨#[]⟩,0,0,0,0⟩
def zW(s:ByteArray):aP:=⟨108,s,O4,0,0,0,false⟩
def BD(o:Ask):aP:=⟨101,⟨#[]⟩,o,0,0,0,false⟩
def qw(a:Int):aP:=⟨99,⟨#[]⟩,O4,a,0,0,false⟩
def dF(a b c:Int):aP:=⟨114,⟨#[]⟩,O4,a,b,c,false⟩
def vz(x:aP):Prop:=∃ln,(∀W,Calls Tryz.prog 139 #[x.val] W fun e w'=>e=.returned (.string ln)∧ag ak W w')∧ln.size≤300
def Out(bv bm bo:Nat)(V:aW)(p:Nat→Nat)(S:RS)(N:Nat)(x:aP)(f r n a c E:Int)(w w':World):Prop :=
 (E≠0∧ag ak w w'∧∃S',iD S x S' (bu f r n a c) E) ∨
 (E=0∧vz x∧Next bv bm bo V (fun V'=>∃S' p',bF p' V' S' (N+1)∧V'.lg.tp=recs V.lg.tp S'.told∧iD S x S' (bu f r n a c) 0∧S'.told.length≤201∧vC V') w w')
theorem Io{s:ByteArray}(hs:s.size≤100):vz (zW s):=by
 refine⟨_,fun W=>I5 s 0 0 ⟨#[]⟩ 0 0 0 0 0 0 0 false W (by omega),?_⟩
 rw[ByteArray.size_append]
 show 5+s.size≤300
 omega
theorem uA{n:Int}(h:bg n=true):mG n:=by simp[bg] at h;exact ⟨by omega,by omega⟩
theorem CP{a:Int}(h:mG a):vz (qw a):=by
 refine⟨_,fun W=>Dw ⟨#[]⟩ 0 0 ⟨#[]⟩ 0 0 0 0 a 0 0 false W h,?_⟩
 rw[ByteArray.size_append]
 have:=(bM a h).2
 show 7+(iG a).size≤300
 omega
theorem Pm(bv bm bo N:Nat)(V:aW)(p:Nat→Nat)(S:RS)(s:ByteArray)(w:World)(R:Rep w bv bm bo V)(h:bF p V S N)(hN:N<2900000)(hz:vC V)(hs:s.size≤1000000000) :
 Calls Tryz.prog 27 #[.pointer (some ⟨bv,0,none⟩),.string s] w fun e w'=>∃E,e=.returned (.int .i64 E)∧Out bv bm bo V p S N (zW s) 0 0 0 0 0 E w w':=by
 have hml:s.size≤maxLen:=by unfold maxLen;omega
 have hname:=Ie s hs
 have hnb:=h.nb
 have h6:=h.OZ
 have hsy:S.sy.length≤1000:=by omega
 have uD:oJ S.sy s≠0→∃S',iD S (zW s) S' (bu 0 0 0 0 0) (oJ S.sy s):=fun he =>
  ⟨S.fresh,fun base sb m W hW=>yK base sb S m (zW s) W hW rfl hs hsy he⟩
 rcases rW S.sy s with⟨h1,h2⟩ | ⟨h1,h2,h3⟩ | ⟨h1,h2,h3,h4⟩ | ⟨h1,h2,h3,h4⟩
 ·rw[h2]at uD
  rw[h1]at hname
  refine (Lj bv s w hname).mono ?_
  rintro e w' ⟨rfl,k⟩
  exact⟨3,rfl,.inl ⟨by decide,k,uD (by decide)⟩⟩
 ·rw[h3]at uD
  rw[h1]at hname
  obtain⟨i,hi,hsi⟩:=(h.there s).1 h2
  refine (Iq bv bm bo i V s w R hname hml hi hsi).mono ?_
  rintro e w' ⟨rfl,k⟩
  exact⟨2,rfl,.inl ⟨by decide,k,uD (by decide)⟩⟩
 ·rw[h4]at uD
  rw[h1]at hname
  have hfree:∀i,i<V.nb→(V.B i).sym≠s:=fun i hi e=>by rw[(h.there s).2 ⟨i,hi,e⟩]at h2;exact absurd h2 (by decide)
  simp only[ge_iff_le,decide_eq_true_eq]at h3
  refine (Ip bv bm bo V s w R hname hml hfree (by omega)).mono ?_
  rintro e w' ⟨rfl,k⟩
  exact⟨7,rfl,.inl ⟨by decide,k,uD (by decide)⟩⟩
 ·rw[h1]at hname
  have hfree:∀i,i<V.nb→(V.B i).sym≠s:=fun i hi e=>by rw[(h.there s).2 ⟨i,hi,e⟩]at h2;exact absurd h2 (by decide)
  simp only[ge_iff_le,decide_eq_false_iff_not]at h3
  have hsz:=Lt h1
  have hna:=h.zG
  refine (Q7 bv bm bo V s w R hname (by omega) hfree (by omega) (by omega)).mono ?_
  rintro e w' ⟨b,aY,rfl,hb,R',k,hf⟩
  refine⟨0,rfl,.inr ⟨rfl,Io (by omega),_,R',⟨S.fresh.lists s,p,h.listed hfree (by omega),rfl,fun base sb m W hW=>IX base sb S m (zW s) W hW rfl hs hsy h4,by show 0≤201;omega,?_⟩,k.mono (fun x hx=>?_),fun x hx=>?_⟩⟩
  ·refine⟨?_,hz.fl,hz.sy,hz.tp⟩
   intro i hi
   by_cases e:i<V.nb
   ·have:(V.listed s b aY).B i=V.B i:=af _ _ (by omega)
    rw[this];exact hz.sz i e
   ·have e2:i=V.nb:=by have:(V.listed s b aY).nb=V.nb+1:=rfl;omega
    subst e2
    have:(V.listed s b aY).B V.nb=jZ s:=upd_same _ _ _
    rw[this]
    show s.size≤100
    omega
  ·rcases hx with hx | hx | hx
   ·exact .inr (.inl hx)
   ·exact .inl hx
   ·exact .inr (.inr (.inr (.inr (.inr hx))))
  ·rcases hx with hx | hx | hx | ⟨i,hi,hx⟩ | hx | hx
   ·exact .inl (.inl hx)
   ·exact .inl (.inr (.inl hx))
   ·exact .inl (.inr (.inr (.inl hx)))
   ·by_cases e:i<V.nb
    ·have e1:(V.listed s b aY).B i=V.B i:=af _ _ (by omega)
     have e2:(V.listed s b aY).bk i=V.bk i:=af _ _ (by omega)
     rw[e1,e2]at hx
     exact .inl (.inr (.inr (.inr (.inl ⟨i,e,hx⟩))))
    ·have e2:i=V.nb:=by have:(V.listed s b aY).nb=V.nb+1:=rfl;omega
     subst e2
     have e1:(V.listed s b aY).B V.nb=jZ s:=upd_same _ _ _
     have e2:(V.listed s b aY).bk V.nb=b:=upd_same _ _ _
     rw[e1,e2]at hx
     rcases hx with hx | ⟨t,ht,hx⟩
     ·right;omega
     ·exact absurd hx (yx s t x)
   ·exact .inl (.inr (.inr (.inr (.inr (.inl hx)))))
   ·exact (hf x hx).imp_left (fun h=>.inr (.inr (.inr (.inr (.inr h)))))
end Go.Proofs.YtigaphnafnpfnaaGreatDoor
namespace Go.Proofs.YtigaphnafnpfnaaGreatDoor
open Go.RowKit
attribute [local go_sem ↓] Go.wp_at_zero Go.wp_at_succ
def RS.L6(S:RS)(k:Nat)(g:Tg):RS:={ S with t:=S.t.set k g }
theorem bH.Tj{w:World}{base sb g c i j:Nat}{S:RS}{m:SM}{x:Tg}(h:bH w base sb S m)(hv:m.tv=.slice (some ⟨g,0,none⟩) S.t.length c)(hi:S.t[i]?=some x)(hj:j<8)(u:Value)(y:Tg)(hy:D5 y=(D5 x).set j u) :
 bH (w.setCell ⟨g,i * 8+j,none⟩ u) base sb (S.L6 i y) m∧ag (SF sb m) w (w.setCell ⟨g,i * 8+j,none⟩ u):=by
 have r:=h.dE
 rw[hv]at r
 have hg:ai w g _ 210:=(ay r (b:=g) rfl).choose_spec
 have kg:ag (fun b=>b=g) w (w.setCell ⟨g,i * 8+j,none⟩ u):=(ag.refl (fun b=>b=g) w).setCell (p:=⟨g,i * 8+j,none⟩) (.inl rfl) _
 have ty:∀e,e≠210→∀b,b=g→∃c t',ai w b c t'∧t'≠e:=fun e he b hb=>by subst hb;exact⟨_,_,hg,fun x=>he x.symm⟩
 refine⟨⟨h.ge,kg.blk h.blk (fun e=>ai.ne h.blk hg (by decide) e),aJ (t:=0) h.jH kg (ty _ (by decide)),aJ (t:=0) h.bI kg (ty _ (by decide)),?_,aJ (t:=0) h.jS kg (ty _ (by decide))⟩,kg.mono (fun b hb=>by subst hb;exact .inr (.inr (.inr (.inl (by rw[hv];rfl)))))⟩
 have r2:=(r.stored (i * 8+j) u).1
 have e2:(pO S.t).set (i * 8+j) u=pO (S.t.set i y):=xM D5 8 DR S.t i j _ y u hi hj hy
 rw[e2]at r2
 rw[hv]
 simp only[RS.L6,List.length_set]
 exact r2
theorem IU(base sb:Nat)(S:RS)(m:SM)(x:aP)(E:Int)(w:World)(h:bH w base sb S m)(hE:E≠0)(HH:∀W,ag ak w W→Calls Tryz.prog 204 #[.pointer (some ⟨sb,0,none⟩),.int .i64 x.a] W fun e w'=>e=.returned (.int .i64 E)∧ag ak W w') :
 Calls Tryz.prog 171 #[.pointer (some ⟨sb,0,none⟩),x.val] w fun e w'=>e=.returned (.int .i64 E)∧ag ak w w':=by
 obtain⟨kind,s,⟨id,owner,sym,side,ax,price,qty⟩,a,b,c,again⟩:=x
 simp only[aP.val,aP.cells]at HH ⊢
 have HC:=hide (HH (w.alloc (.cells #[.int .u8 kind,.string s,.int .i64 id,.int .i64 owner,.string sym,.int .i64 side,.int .i64 ax,.int .i64 price,.int .i64 qty,.int .i64 a,.int .i64 b,.int .i64 c,.bool again] 169)) ((ag.refl ak w).alloc _))
 have e0:(E == 0)=false:=by simpa using hE
 clear HH h
 go_enter Tryz.func171,Tryz.ntmps171
 go_wp2_with fail
 refine (ae HC).mono ?_
 rintro e w2 ⟨rfl,k2⟩
 have HK:=hide k2
 clear k2 HC
 go_wp2
 go_ret
 exact⟨rfl,ag.trans ((ag.refl ak w).alloc _) (ae HK)⟩
theorem Dj(base sb k:Nat)(S:RS)(m:SM)(x:aP)(t:Tg)(w:World)(h:bH w base sb S m)(hl:S.t.length≤1000000000)(hx:x.kind=107)(hk:x.a-1=(k:Int))(ht:S.t[k]?=some t)(hp:ja t S.day=0)(hb:bg x.b=false) :
 Calls Tryz.prog 171 #[.pointer (some ⟨sb,0,none⟩),x.val] w fun e w'=>e=.returned (.int .i64 4)∧ag ak w w':=by
 have HH:Hid (∀W,ag ak w W→Calls Tryz.prog 204 #[.pointer (some ⟨sb,0,none⟩),.int .i64 x.a] W fun e w'=>e=.returned (.int .i64 0)∧ag ak W w'):=fun W kW=>by
  have:=ku base sb k S m x.a t W (h.aj kW) hl hk ht
  rw[hp]at this
  exact this
 have V7:Hid (∀W,Calls Tryz.prog 198 #[.int .i64 x.b] W fun e w'=>e=.returned (.bool false)∧w'=W):=fun W=>by
  have:=jy x.b W
  rw[hb]at this
  exact this
 obtain⟨ta,tc,hv⟩:=az h.dE
 obtain⟨g,rfl,_,lg,_,hc,hf⟩:=h.RD hv ht
 have hkl:=(List.getElem?_eq_some_iff.1 ht).1
 obtain⟨N,hN⟩:∃N,S.t.length=N:=⟨_,rfl⟩
 rw[hN]at hv hkl hl
 have v2:w.cell? ⟨sb,2,none⟩=some (.slice (some ⟨g,0,none⟩) N tc):=by rw[←hv];exact h.blk.cell 2
 have uj:=h.blk.lt
 obtain⟨kind,s,⟨id,owner,sym,side,ax,price,qty⟩,a,b,c,again⟩:=x
 simp only at hx hk
 subst hx
 simp only[aP.val,aP.cells]at HH V7 ⊢
 obtain rfl:a=(k:Int)+1:=by omega
 obtain⟨W1,hW1⟩:∃W1,W1=w.alloc (.cells #[.int .u8 107,.string s,.int .i64 id,.int .i64 owner,.string sym,.int .i64 side,.int .i64 ax,.int .i64 price,.int .i64 qty,.int .i64 ((k:Int)+1),.int .i64 b,.int .i64 c,.bool again] 169):=⟨_,rfl⟩
 have k1:ag ak w W1:=by rw[hW1];exact (ag.refl ak w).alloc _
 have b1:ai W1 w.heap.size #[.int .u8 107,.string s,.int .i64 id,.int .i64 owner,.string sym,.int .i64 side,.int .i64 ax,.int .i64 price,.int .i64 qty,.int .i64 ((k:Int)+1),.int .i64 b,.int .i64 c,.bool again] 169:=by rw[hW1];exact ai.new _ _ _
 have HC:=hide (ae HH W1 k1)
 have HV2:=hide v2
 have HB1:=hide b1
 have kV:=hide k1
 have HW1:=hide hW1
 clear h hc hf ht hp hb HH hk hv hN v2 b1 k1 hW1
 go_enter Tryz.func171,Tryz.ntmps171
 go_wp2_with fail
 rw[←ae HW1]
 refine (ae HC).mono ?_
 rintro e w2 ⟨rfl,k2⟩
 have kk:=(ae kV).trans k2
 have v2:w2.cell? ⟨sb,2,none⟩=some (.slice (some ⟨g,0,none⟩) N tc):=kk.cell (ae HV2) (fun z=>z)
 have b2:=k2.blk (ae HB1) (fun z=>z)
 have x0:w2.cell? ⟨w.heap.size,0,none⟩=some (.int .u8 107):=b2.cell 0
 have x9:w2.cell? ⟨w.heap.size,9,none⟩=some (.int .i64 ((k:Int)+1)):=b2.cell 9
 have x10:w2.cell? ⟨w.heap.size,10,none⟩=some (.int .i64 b):=b2.cell 10
 have lb:=b2.lt
 have Q8:sb<w2.heap.size:=Nat.lt_of_lt_of_le uj kk.size
 have HKK:=hide kk
 clear kk k2 b2 HC HB1 kV HW1 HV2
 go_wp2
 go_quiet (fail)
 go_wp2_with fail
 refine (ae V7 _).mono ?_
 rintro e w3 ⟨rfl,hw3⟩
 rw[hw3]
 clear hw3 w3
 go_wp2
 go_ret
 exact⟨rfl,(ae HKK).drewN _⟩
end Go.Proofs.YtigaphnafnpfnaaGreatDoor
namespace Go.Proofs.YtigaphnafnpfnaaGreatDoor
open Go.RowKit Go.Maps
theorem Turned.of{w w':World}{bv bm bo i:Nat}{V:aW}(R:Rep w bv bm bo V)(hi:i<V.nb){B':Bk}{df:Nat→Ord}{S:Nat→Prop}(Q:aW→Prop){ds:List Back}(hds:ds.length≤3)(hn:wW bv bm bo V.lg V.lm ds w w')
 (hm:Mk w' (V.bk i) B' df (fun x=>∃id,V.aO id=some x)) (k:ag (fun x=>S x∨gm V.lm.av V.lm.ac x) w w') (hS:∀x,S x→x=V.bk i∨(∃s,s<2∧bQ (V.B i) s x)∨((∃id,V.aO id=some x)∧Apart V i x))
 (oL:∀x,Apart V i x∨df x=V.om x) (hid:∀x,(df x).id=(V.om x).id) (bY:B'.sym=(V.B i).sym)
 (hsd:∀s,s<2→∀x,bQ B' s x→(∃t,t<2∧bQ (V.B i) t x)∨((∃id,V.aO id=some x)∧Apart V i x)∨w.heap.size≤x) (hQ:∀G' aY,Q { V.turn i B' df with lg:=G',lm:=aY }):Turned bv bm bo V Q w w':=by
 have uq:∀s,s<2→∀x,bQ (V.B i) s x→Apart V i x:=fun s hs x hx j hj hne t ht h=>R.oG i j hi hj (fun e=>hne e.symm) s t hs ht x hx h
 obtain⟨aY,hl,hF⟩:=hn
 refine⟨{ V.turn i B' df with lg:=V.lg.aS ds,lm:=aY },R.YG hi hm hl (k.mono (fun x h=>h.imp_right (fun h=>.inr (.inr (.inr h))))) hS (fun j hj hne s hs l hl=>?_) hid bY (fun s hs x hx=>?_),hQ _ _,⟨rfl,rfl,rfl,rfl,by simp only[Lg.aS,List.length_append];omega⟩,fun b c t hb ht=>?_,rfl,k.mono (fun x hx=>?_),fun x hx=>?_⟩
 ·rcases oL ((V.B j).h s l) with h | h
  ·exact absurd (.inr ⟨l,hl,rfl⟩) (h j hj hne s hs)
  ·exact h
 ·rcases hsd s hs x hx with⟨t,ht,h⟩ | ⟨_,h⟩ | h
  ·exact .inl (uq t ht x h)
  ·exact .inl h
  ·exact .inr h
 ·refine k.blk hb ?_
  rintro (h | h)
  ·obtain⟨c',t',hc,ht'⟩:=(R.zk hi).typ (b:=b) (by
    rcases hS b h with h | h | ⟨h,_⟩
    ·exact .inl h
    ·exact .inr (.inr h)
    ·exact .inr (.inl h))
   exact ai.ne hb hc (by rcases ht with rfl | rfl | rfl <;> rcases ht' with rfl | rfl | rfl <;> decide) rfl
  ·obtain⟨c',t',hc,ht'⟩:=R.log.log.act.typ h
   exact ai.ne hb hc (by rcases ht with rfl | rfl | rfl <;> rcases ht' with rfl | rfl <;> decide) rfl
 ·rcases hx with hx | hx
  ·rcases hS x hx with h | ⟨s,hs,h⟩ | ⟨h,_⟩
   ·exact .inr (.inr (.inr (.inl ⟨i,hi,.inl h⟩)))
   ·exact .inr (.inr (.inr (.inl ⟨i,hi,.inr ⟨s,hs,h⟩⟩)))
   ·exact .inr (.inr (.inr (.inr (.inl h))))
  ·exact .inr (.inr (.inr (.inr (.inr (.inr (.inr (.inr hx)))))))
 ·rcases hx with h | h | h | ⟨j,hj,h⟩ | h | h
  ·exact .inl (.inl h)
  ·exact .inl (.inr (.inl h))
  ·exact .inl (.inr (.inr (.inl h)))
  ·rcases h with h | ⟨s,hs,h⟩
   ·exact .inl (.inr (.inr (.inr (.inl ⟨j,hj,.inl h⟩))))
   ·by_cases e:j=i
    ·subst e
     simp only[aW.turn,upd_same]at h
     rcases hsd s hs x h with⟨t,ht,h⟩ | ⟨h,_⟩ | h
     ·exact .inl (.inr (.inr (.inr (.inl ⟨j,hj,.inr ⟨t,ht,h⟩⟩))))
     ·exact .inl (.inr (.inr (.inr (.inr (.inl h)))))
     ·exact .inr h
    ·simp only[aW.turn,af _ _ e]at h
     exact .inl (.inr (.inr (.inr (.inl ⟨j,hj,.inr ⟨s,hs,h⟩⟩))))
  ·exact .inl (.inr (.inr (.inr (.inr (.inl h)))))
  ·exact (hF x h).imp_left (fun h=>.inr (.inr (.inr (.inr (.inr h)))))
theorem Qo.dN{M:Int}{o:Ord}(h:Qo M o)(hM:M≤1000000000000000){q:Int}(h1:0≤q)(h2:q≤o.filled):Qo M (dN o q)∧(Go.Proofs.YtigaphnafnpfnaaGreatDoor.dN o q).filled=o.filled-q:=by
 obtain⟨a,b,c,d,e,f⟩:=h
 have e1:(Go.Proofs.YtigaphnafnpfnaaGreatDoor.dN o q).filled=o.filled-q:=by simp only[Go.Proofs.YtigaphnafnpfnaaGreatDoor.dN];exact aF (by omega) (by omega)
 have e2:(Go.Proofs.YtigaphnafnpfnaaGreatDoor.dN o q).aG=o.aG+q:=by simp only[Go.Proofs.YtigaphnafnpfnaaGreatDoor.dN];exact aF (by omega) (by omega)
 refine⟨⟨?_,b,by rw[e1];omega,by rw[e2];omega,e,f⟩,e1⟩
 show o.entered=o.opn+(Go.Proofs.YtigaphnafnpfnaaGreatDoor.dN o q).filled+(Go.Proofs.YtigaphnafnpfnaaGreatDoor.dN o q).aG+o.exp
 rw[e1,e2];omega
theorem Qo.fG{M:Int}{o:Ord}(h:Qo M o)(hM:M≤1000000000000000){q:Int}(h1:0≤q)(h2:q≤o.filled)(p:Int):Qo M { fG o q with place:=p }∧(Go.Proofs.YtigaphnafnpfnaaGreatDoor.fG o q).filled=o.filled-q∧(Go.Proofs.YtigaphnafnpfnaaGreatDoor.fG o q).opn=o.opn+q:=by
 obtain⟨a,b,c,d,e,f⟩:=h
 have e1:(Go.Proofs.YtigaphnafnpfnaaGreatDoor.fG o q).filled=o.filled-q:=by simp only[Go.Proofs.YtigaphnafnpfnaaGreatDoor.fG];exact aF (by omega) (by omega)
 have e2:(Go.Proofs.YtigaphnafnpfnaaGreatDoor.fG o q).opn=o.opn+q:=by simp only[Go.Proofs.YtigaphnafnpfnaaGreatDoor.fG];exact aF (by omega) (by omega)
 refine⟨⟨?_,?_,?_,d,e,f⟩,e1,e2⟩
 ·show o.entered=(Go.Proofs.YtigaphnafnpfnaaGreatDoor.fG o q).opn+(Go.Proofs.YtigaphnafnpfnaaGreatDoor.fG o q).filled+o.aG+o.exp
  rw[e1,e2];omega
 ·show 0≤(Go.Proofs.YtigaphnafnpfnaaGreatDoor.fG o q).opn
  rw[e2];omega
 ·show 0≤(Go.Proofs.YtigaphnafnpfnaaGreatDoor.fG o q).filled
  rw[e1];omega
theorem JU{B:Bk}{df:Nat→Ord}{t b g cap' y x:Nat}(h:bQ (B.rest df t b g cap') y x):bQ B y x∨x=b∨x=g:=by
 by_cases e:y=t
 ·subst e
  rcases h with h | ⟨k,hk,h⟩
  ·simp only[Bk.rest,upd_same,iP,Option.some.injEq]at h
   exact .inr (.inr h.symm)
  ·simp only[Bk.rest,upd_same]at hk h
   rcases (mem_push (lt:=dW df) (B.h y) b _).1 ⟨k,hk,rfl⟩ with h' | h'
   ·obtain⟨k',hk',e'⟩:=h'
    exact .inl (.inr ⟨k',hk',by rw[h,e']⟩)
   ·exact .inr (.inl (by rw[h,h']))
 ·left
  unfold bQ at h ⊢
  simp only[Bk.rest,af _ _ e]at h
  exact h
theorem Fb{B:Bk}{om:Nat→Ord}{t k y x:Nat}(hinj:qP (B.n t) (B.h t))(hk:k<B.n t)(h:bQ (B.leave om t k) y x):bQ B y x:=by
 by_cases e:y=t
 ·subst e
  rcases h with h | h
  ·exact .inl h
  ·have m:=(jo (om:=om) hinj hk x).1 h
   exact .inr m.1
 ·unfold bQ at h ⊢
  simp only[Bk.leave,af _ _ e]at h
  exact h
theorem pg(V:aW)(i b:Nat)(q:Int){x:Nat}(h:x≠b):bJ V i b q x=V.om x:=by unfold bJ;rw[af _ _ h,af _ _ h]
theorem dm(V:aW)(i b:Nat)(q:Int):bJ V i b q b={ fG (V.om b) q with place:=wrap64 ((V.B i).places+1) }:=by unfold bJ;rw[upd_same]
end Go.Proofs.YtigaphnafnpfnaaGreatDoor
