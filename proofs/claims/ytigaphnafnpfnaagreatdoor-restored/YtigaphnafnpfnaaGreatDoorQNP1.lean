import Derived.Test.YtigaphnafnpfnaaGreatDoorQND2
import Derived.Test.YtigaphnafnpfnaaGreatDoorQNU6
set_option linter.unusedVariables false
set_option linter.unusedSimpArgs false
namespace Go.Proofs.YtigaphnafnpfnaaGreatDoor
open Go.RowKit
def Ir(tr:List Tg):Prop:=∀(k:Nat) (x:Tg),tr[k]?=some x->x.t.num=(k:Int)+1
theorem Ir.jD{tr:List Tg}{x:Tg}(h:Ir tr)(hx:x.t.num=(tr.length:Int)+1):Ir (tr++[x]):=by
 intro k y hy;by_cases hk:k<tr.length
 ·rw[List.getElem?_append_left hk]at hy;exact h k y hy
 ·rw[List.getElem?_append_right (by omega)]at hy;have:k-tr.length=0:=by
   cases e:k-tr.length with
   | zero=>rfl
   | succ m=>rw[e]at hy;simp at hy
  rw[this]at hy;simp only[List.getElem?_cons_zero,Option.some.injEq]at hy;subst hy;rw[hx];have:k=tr.length:=by omega
  rw[this]
theorem Ir.set{tr:List Tg}{x:Tg}{k:Nat}(h:Ir tr)(hx:x.t.num=(k:Int)+1):Ir (tr.set k x):=by
 intro j y hy;rw[List.getElem?_set]at hy;split at hy
 ·split at hy
  ·simp only[Option.some.injEq]at hy;subst hy;rename_i e _;rw[<-e];exact hx
  ·simp at hy
 ·exact h j y hy
theorem wo{tr:List Tg}{k:Nat}{x:Tg}(h:Ir tr)(hx:tr[k]?=some x) :
 held tr=held (tr.take k)++(if x.holds then [x.t] else [])++held (tr.drop (k+1))/\(∀t∈held (tr.take k),t.num<(k:Int)+1)/\(∀t∈held (tr.drop (k+1)),(k:Int)+1<t.num):=by
 refine⟨?_,fun t ht=>?_,fun t ht=>?_⟩
 ·have e:=congrArg held (CU hx);rw[dH,dH,jW]at e;exact e
 ·obtain⟨y,hy,rfl⟩:=BA ht;obtain⟨j,hj⟩:=List.mem_iff_getElem?.1 hy;rw[List.getElem?_take]at hj;split at hj
  ·have:=h j y hj;omega
  ·simp at hj
 ·obtain⟨y,hy,rfl⟩:=BA ht;obtain⟨j,hj⟩:=List.mem_iff_getElem?.1 hy;rw[List.getElem?_drop]at hj;have:=h _ y hj;push_cast at this;omega
inductive wX:List Tr->Rc->List Tr->Prop
 | print {a b:List Tr} {r:Rc} (hk:r.kind=1) (h1:∀t∈a,t.num<r.t.num) (h2:∀t∈b,r.t.num<t.num):wX (a++b) r (a++[r.t]++b)
 | nI {a b:List Tr} {r:Rc} (hk:r.kind=2) (h1:∀t∈a,t.num<r.t.num) (h2:∀t∈b,r.t.num<t.num):wX (a++[r.t]++b) r (a++b)
 | dM {a b:List Tr} {r:Rc} {t:Tr} (hk:r.kind=3) (ht:t.num=r.t.num) (h1:∀t∈a,t.num<r.t.num) (h2:∀t∈b,r.t.num<t.num):wX (a++[t]++b) r (a++[r.t]++b)
 | close {a:List Tr} {r:Rc} (hk:r.kind=4):wX a r a
inductive pF:List Rc->List Tr->Prop
 | nil:pF [] []
 | jD {rs:List Rc} {r:Rc} {a b:List Tr} (h:pF rs a) (hr:wX a r b) (hn:r.num=(rs.length:Int)+1):pF (rs++[r]) b
structure Told(tr:List Tg)(tp:List Rc):Prop where
 num:Ir tr
 Qb:pF tp (held tr)
theorem Told.start:Told [] []:=⟨fun k x h=>by simp at h,.nil⟩
theorem Told.print{tr:List Tg}{tp:List Rc}{t:Tr}{r:Rc}(h:Told tr tp)(ht:t.num=(tr.length:Int)+1)(hr:r.t=t)(hk:r.kind=1)(hn:r.num=(tp.length:Int)+1):Told (tr++[⟨t,true⟩]) (tp++[r]):=by
 refine⟨h.num.jD ht,?_⟩;rw[dH,jW];have hb:∀x∈held tr,x.num<r.t.num:=fun x hx=>by
  obtain⟨y,hy,rfl⟩:=BA hx;obtain⟨j,hj⟩:=List.mem_iff_getElem?.1 hy;have:=h.num j y hj;have:=(List.getElem?_eq_some_iff.1 hj).1;rw[hr];omega
 have hF:=wX.print (a:=held tr) (b:=[]) (r:=r) hk hb (fun x hx=>by simp at hx);rw[List.append_nil,List.append_nil,hr]at hF
 simpa using pF.jD h.Qb hF hn
theorem Told.nI{tr:List Tg}{tp:List Rc}{k:Nat}{x:Tg}{r:Rc}(h:Told tr tp)(hx:tr[k]?=some x)(hh:x.holds=true)(hr:r.t=x.t)(hk:r.kind=2)(hn:r.num=(tp.length:Int)+1):Told (tr.set k ⟨x.t,false⟩) (tp++[r]):=by
 have hl:=(List.getElem?_eq_some_iff.1 hx).1;have hnum:=h.num k x hx;obtain⟨e,h1,h2⟩:=wo h.num hx;refine⟨h.num.set hnum,?_⟩;rw[qU hl,dH,dH,jW];rw[hh]at e;have hF:=wX.nI (a:=held (tr.take k)) (b:=held (tr.drop (k+1))) (r:=r) hk (fun t ht=>by rw[hr,hnum];exact h1 t ht) (fun t ht=>by rw[hr,hnum];exact h2 t ht);rw[hr]at hF;have hf:=h.Qb;rw[e]at hf
 simpa using pF.jD hf (by simpa using hF) hn
theorem Told.again{tr:List Tg}{tp:List Rc}{k:Nat}{x:Tg}{r:Rc}(h:Told tr tp)(hx:tr[k]?=some x)(hh:x.holds=false)(hr:r.t=x.t)(hk:r.kind=1)(hn:r.num=(tp.length:Int)+1):Told (tr.set k ⟨x.t,true⟩) (tp++[r]):=by
 have hl:=(List.getElem?_eq_some_iff.1 hx).1;have hnum:=h.num k x hx;obtain⟨e,h1,h2⟩:=wo h.num hx;refine⟨h.num.set hnum,?_⟩;rw[qU hl,dH,dH,jW];rw[hh]at e;have hF:=wX.print (a:=held (tr.take k)) (b:=held (tr.drop (k+1))) (r:=r) hk (fun t ht=>by rw[hr,hnum];exact h1 t ht) (fun t ht=>by rw[hr,hnum];exact h2 t ht);rw[hr]at hF;have hf:=h.Qb;rw[e]at hf
 simpa using pF.jD (by simpa using hf) (by simpa using hF) hn
theorem Told.dM{tr:List Tg}{tp:List Rc}{k:Nat}{x:Tg}{t:Tr}{r:Rc}(h:Told tr tp)(hx:tr[k]?=some x)(hh:x.holds=true)(ht:t.num=x.t.num)(hr:r.t=t)(hk:r.kind=3)(hn:r.num=(tp.length:Int)+1):Told (tr.set k ⟨t,true⟩) (tp++[r]):=by
 have hl:=(List.getElem?_eq_some_iff.1 hx).1;have hnum:=h.num k x hx;obtain⟨e,h1,h2⟩:=wo h.num hx;refine⟨h.num.set (by simp only[ht];exact hnum),?_⟩;rw[qU hl,dH,dH,jW];rw[hh]at e;have hF:=wX.dM (a:=held (tr.take k)) (b:=held (tr.drop (k+1))) (r:=r) (t:=x.t) hk (by rw[hr,ht]) (fun y hy=>by rw[hr,ht,hnum];exact h1 y hy) (fun y hy=>by rw[hr,ht,hnum];exact h2 y hy);rw[hr]at hF;have hf:=h.Qb;rw[e]at hf
 simpa using pF.jD hf (by simpa using hF) hn
theorem Told.close{tr:List Tg}{tp:List Rc}{r:Rc}(h:Told tr tp)(hk:r.kind=4)(hn:r.num=(tp.length:Int)+1):Told tr (tp++[r]):=⟨h.num,.jD h.Qb (.close hk) hn⟩
def Lg.Told(G:Lg):Prop:=Go.Proofs.YtigaphnafnpfnaaGreatDoor.Told G.tr G.tp
theorem Lg.Told.jT{G:Lg}(h:G.Told)(t:Tr):(G.jT t).Told:=Go.Proofs.YtigaphnafnpfnaaGreatDoor.Told.print h (t:=G.iP t) rfl rfl rfl rfl
theorem Lg.Told.dn{G:Lg}(h:G.Told)(om:Nat->Ord)(oc ow:Nat):(dn G om oc ow).Told:=by
 unfold Lg.Told;rw[gW,oH];exact h
theorem N8{oc s:Nat}{st:MS}(h:st.lg.Told):(bF oc s st).lg.Told:=by
 unfold bF;split
 ·exact h
 ·exact (h.dn _ _ _).jT _
theorem N7{oc s:Nat}:∀(k:Nat) (st:MS),st.lg.Told->(aZ oc s k st).lg.Told:=by
 intro k
 induction k with
 | zero=>intro st h;exact h
 | succ k ih =>
   intro st h;unfold aZ;split
   ·exact h
   ·exact ih _ (N8 h)
inductive mG (t0:List Tg):List (Int × Tr)->List Tg->Prop
 | refl:mG t0 [] t0
 | print {B:List (Int × Tr)} {t:List Tg} {x:Tr} (h:mG t0 B t) (hn:x.num=(t.length:Int)+1):mG t0 (B++[(2,x)]) (t++[⟨x,true⟩])
 | nI {B:List (Int × Tr)} {t:List Tg} {k:Nat} {x:Tr} (h:mG t0 B t) (hx:t[k]?=some ⟨x,true⟩):mG t0 (B++[(1,x)]) (t.set k ⟨x,false⟩)
 | dM {B:List (Int × Tr)} {t:List Tg} {k:Nat} {x y:Tr} (h:mG t0 B t) (hx:t[k]?=some ⟨x,true⟩) (hy:y.num=x.num):mG t0 (B++[(3,x)]) (t.set k ⟨y,true⟩)
theorem J3{t:List Tg}{k:Nat}{x y:Tg}(hx:t[k]?=some x):(t.set k y).set k x=t:=by
 rw[List.set_set];obtain⟨hk,e⟩:=List.getElem?_eq_some_iff.1 hx;rw[<-e,List.set_getElem_self]
theorem OD{t:List Tg}{k:Nat}{x y:Tg}(hx:t[k]?=some x):(t.set k y)[k]?=some y:=by
 obtain⟨hk,_⟩:=List.getElem?_eq_some_iff.1 hx;rw[List.getElem?_set_self hk]
theorem mG.nH{t0:List Tg}{B:List (Int × Tr)}{t:List Tg}(h:mG t0 B t):∀{tp:List Rc},Told t tp->Told t0 (qx tp B.reverse):=by
 induction h with
 | refl=>intro tp ht;exact ht
 | print h hn ih =>
   rename_i B t x;intro tp ht;rw[List.reverse_append];have e0:(t++[(⟨x,true⟩:Tg)])[t.length]?=some ⟨x,true⟩:=by simp
   have h1:=ht.nI (r:=⟨(tp.length:Int)+1,2,x⟩) e0 rfl rfl rfl rfl;refine ih (tp:=tp++[⟨(tp.length:Int)+1,2,x⟩]) ⟨fun k y hy=>ht.num k y ?_,?_⟩
   ·have:=(List.getElem?_eq_some_iff.1 hy).1;rw[List.getElem?_append_left this];exact hy
   ·have h2:=h1.Qb;have e1:(t++[(⟨x,true⟩:Tg)]).set t.length ⟨x,false⟩=t++[⟨x,false⟩]:=by simp
    rw[e1,dH,jW]at h2
    simpa using h2
 | nI h hx ih =>
   rename_i B t k x;intro tp ht;rw[List.reverse_append];have h1:=ht.again (r:=⟨(tp.length:Int)+1,1,x⟩) (OD (y:=⟨x,false⟩) hx) rfl rfl rfl rfl;rw[J3 hx]at h1;exact ih h1
 | dM h hx hy ih =>
   rename_i B t k x y;intro tp ht;rw[List.reverse_append];have h1:=ht.dM (t:=x) (r:=⟨(tp.length:Int)+1,3,x⟩) (OD (y:=⟨y,true⟩) hx) rfl hy.symm rfl rfl rfl;rw[J3 hx]at h1;exact ih h1
def TT(t0:List Tg)(G:Lg):Prop:=mG t0 (kK G.nt) G.tr
theorem TT.aX{t0:List Tg}{G:Lg}(h:TT t0 G){ds:List dY}(hd:kK ds=[]):TT t0 (G.aX ds):=by
 show mG t0 (kK (G.nt++ds)) G.tr;rw[iL,hd,List.append_nil];exact h
theorem TT.bF{t0:List Tg}{oc s:Nat}{st:MS}(h:TT t0 st.lg):TT t0 (Go.Proofs.YtigaphnafnpfnaaGreatDoor.bF oc s st).lg:=by
 unfold Go.Proofs.YtigaphnafnpfnaaGreatDoor.bF;split
 ·exact h.aX rfl
 ·have h':TT t0 (dn st.lg st.om oc (st.B.h s 0)):=by
   unfold dn;split
   ·exact (h.aX rfl).aX rfl
   ·exact h.aX rfl
  generalize dn st.lg st.om oc (st.B.h s 0)=G at h';generalize iY st.B st.om oc (st.B.h s 0)=t;show mG t0 (kK (G.nt++[.iZ (G.iP t)])) (G.tr++[⟨G.iP t,true⟩]);rw[iL];exact mG.print h' rfl
theorem TT.match{t0:List Tg}{oc s:Nat}:∀(f:Nat) (st:MS),TT t0 st.lg->TT t0 (aZ oc s f st).lg
 | 0,st,h=>h
 | f+1,st,h=>by
   rw[aZ];split
   ·exact h
   ·exact TT.match f _ h.bF
theorem TT.SK{t0:List Tg}{oc s:Nat}{st:MS}(h:TT t0 st.lg):TT t0 (iC oc (mF oc s st)) :=
 TT.aX (TT.match (oc:=oc) (s:=s) (mu oc s st) st h) (by split <;> rfl)
theorem Fg{oc s:Nat}{st:MS}(h:st.lg.Told):(iC oc (mF oc s st)).Told:=N7 (oc:=oc) (s:=s) (mu oc s st) st h
theorem Told.mX{G:Lg}(h:G.Told){k tb:Nat}{x:Tg}{p:Int}(hx:G.tr[k]?=some x)(hh:x.holds=true):(G.mX k tb x p).Told:=by
 have:=Told.dM h (t:=x.t.at p) (r:=⟨(G.tp.length:Int)+1,3,x.t.at p⟩) hx hh rfl rfl rfl rfl;show Go.Proofs.YtigaphnafnpfnaaGreatDoor.Told (G.tr.set k ⟨x.t.at p,x.holds⟩) (G.tp++[⟨(G.tp.length:Int)+1,3,x.t.at p⟩]);rw[hh];exact this
theorem PU{oc s:Nat}{M:Int}{st0:MS}(hM:M<=1000000000000000)(run:PH oc s M st0 (mF oc s st0)) :
 (aH oc (mF oc s st0) oc).entered=(st0.om oc).entered/\(aH oc (mF oc s st0) oc).exp=(st0.om oc).exp/\(aH oc (mF oc s st0) oc).filled=((mF oc s st0).om oc).filled/\(st0.om oc).bZ<=(aH oc (mF oc s st0) oc).bZ/\Qo M (aH oc (mF oc s st0) oc):=by
 have hq:=run.q oc (.inl rfl);have hs:=run.dN oc;have hc:=run.bZ;unfold aH;split
 ·rw[ai];exact⟨hs.2.2.2.2.2.2.2.2.1,hs.2.2.2.2.2.2.2.2.2,rfl,by show _<=((mF oc s st0).om oc).bZ;omega,⟨hq.sum,hq.o0,hq.f0,hq.c0,hq.e0,hq.hi⟩⟩
 ·rw[ai];obtain⟨c1,c2,c3⟩:=hq.bZ hM;exact⟨hs.2.2.2.2.2.2.2.2.1,hs.2.2.2.2.2.2.2.2.2,rfl,by rw[c3];have:=hq.o0;omega,c1⟩
theorem QL{o:iT}{b s:Nat}{M:Int}{B:Bk}{om:Nat->Ord}{lg:Lg}(hM:M<=1000000000000000)(run:PH b s M ⟨B,aQ om b (aN o),lg⟩ (mF b s ⟨B,aQ om b (aN o),lg⟩))(hlen:lg.tr.length+(B.n s+1)<=1000000000) :
 ∃f r c a m,lG (aN o) (aH b (mF b s ⟨B,aQ om b (aN o),lg⟩) b) (lg.tr.length:Int) ((mF b s ⟨B,aQ om b (aN o),lg⟩).lg.tr.length:Int)=mM f r c a m/\f+r+c=o.aK/\0<=f/\0<=r/\0<=c/\(m=0↔f=0)/\f<=M/\r<=M/\c<=M:=by
 obtain⟨e1,e2,e3,e4,hq⟩:=PU hM run;have hfil:=run.fil;have TG:=run.eqv;have Jc:=run.trl;have hl:=(Nw (oc:=b) (s:=s) (st:=⟨B,aQ om b (aN o),lg⟩)).1;simp only[ai]at e1 e2 e4 hfil TG;simp only[MS.tr]at TG Jc;simp only at hl;generalize aH b (mF b s ⟨B,aQ om b (aN o),lg⟩) b=O at *;generalize hst:mF b s ⟨B,aQ om b (aN o),lg⟩=st at *;have n1:(aN o).entered=o.aK:=rfl;have n2:(aN o).filled=0:=rfl;have n3:(aN o).bZ=0:=rfl;have n4:(aN o).exp=0:=rfl;rw[n1]at e1;rw[n4]at e2;rw[n3]at e4;rw[n2]at hfil TG;have q1:=hq.sum;have q2:=hq.o0;have q3:=hq.f0;have q4:=hq.c0;have q5:=hq.hi;have w1:wrap64 (O.filled-(aN o).filled)=O.filled:=by rw[n2];rw[aT (by omega) (by omega)];omega
 have w2:wrap64 (O.bZ-(aN o).bZ)=O.bZ:=by rw[n3];rw[aT (by omega) (by omega)];omega
 unfold lG;rw[w1,w2];split
 ·rename_i hlt;refine⟨O.filled,O.aO,O.bZ,_,_,rfl,by omega,by omega,by omega,by omega,?_,by omega,by omega,by omega⟩;rw[aT (x:=((st.lg.tr.length:Int)-(lg.tr.length:Int))) (by omega) (by omega),e3];constructor
  ·intro h;omega
  ·intro h;have:=TG.1 (by omega);omega
 ·rename_i hlt;refine⟨O.filled,O.aO,O.bZ,0,0,rfl,by omega,by omega,by omega,by omega,?_,by omega,by omega,by omega⟩;rw[e3];exact⟨fun _=>by rw[TG.2 (by omega)],fun _=>rfl⟩
open Go.RowKit Go.Maps
attribute [local go_sem ↓] Go.wp_at_zero Go.wp_at_succ
theorem EW(x:Tg)(day:Int):pg x day≠0\/(pg x day=0/\x.holds=true):=by
 unfold pg;cases h:x.holds
 ·simp
 ·by_cases e:x.t.day=day
  ·simp[e]
  ·simp[e]
theorem dA.PW{p:Nat->Nat}{V:aS}{S:RS}{N k tb:Nat}{x:Tg}{b:Int}{bM:Lm}(h:dA p V S N)(hx:S.t[k]?=some x):dA p { V with lg:=V.lg.mX k tb x b,lm:=bM } (S.fresh.dM k x b) (N+1):=by
 have hl:=(List.getElem?_eq_some_iff.1 hx).1;refine⟨⟨h.gw.gb,h.gw.lW,fun y hy=>?_,h.gw.sym,h.gw.side⟩,h.nb,h.sym,h.no,h.aW,h.zY,h.inj,h.same,h.place,h.xy,h.O3,h.O4,fun i hi=>?_,?_,?_,h.day,?_,?_,?_,h.gV,h.UJ,h.rJ⟩
 ·have q:=h.gw.q y hy;exact⟨q.sum,q.o0,q.f0,q.c0,q.e0,by have:=q.hi;unfold mN at this ⊢;push_cast;omega⟩
 ·have h5:=h.EU i hi;exact⟨h5.1,by show (V.B i).places<=_;push_cast;have:=h5.2;omega⟩
 ·have h5:=h.Rx;exact⟨h5.1,by show S.places<=_;push_cast;have:=h5.2;omega⟩
 ·show V.lg.tr.set k ⟨x.t.at b,x.holds⟩=S.t.set k ⟨{ x.t with af:=b },x.holds⟩;rw[h.tr];rfl
 ·show (V.lg.tr.set k ⟨x.t.at b,x.holds⟩).length<=_;rw[List.length_set];have:=h.yu;omega
 ·show (V.lg.tp++[(⟨(V.lg.tp.length:Int)+1,3,x.t.at b⟩:Rc)]).length<=_;rw[List.length_append,List.length_singleton];have:=h.DJ;omega
 ·show V.lg.ud+(V.lg.na+1)<=N+1;have:=h.zX;omega
theorem FL.af{om:Nat->Ord}{aW:Int->Option Nat}{tr:List Tg}{k:Nat}{x:Tg}{ex:Int->Int}{b:Int}(h:FL om aW (held tr) ex)(hx:tr[k]?=some x):FL om aW (held (tr.set k ⟨x.t.at b,x.holds⟩)) ex:=by
 have hl:=(List.getElem?_eq_some_iff.1 hx).1;have e:held tr=held (tr.take k)++(if x.holds then [x.t] else [])++held (tr.drop (k+1)):=by
  have e:=congrArg held (CU hx);rw[dH,dH,jW]at e;exact e
 have e2:held (tr.set k ⟨x.t.at b,x.holds⟩)=held (tr.take k)++(if x.holds then [x.t.at b] else [])++held (tr.drop (k+1)):=by
  rw[qU hl,dH,dH,jW]
 rw[e]at h;rw[e2];refine⟨fun t ht=>?_,h.rJ,fun id c hc=>?_⟩
 ·simp only[List.mem_append]at ht;rcases ht with (a | a) | a
  ·exact h.tw t (by simp[a])
  ·cases hh:x.holds
   ·rw[hh]at a;simp at a
   ·rw[hh]at a;simp at a;subst a;have:=h.tw x.t (by simp[hh]);exact⟨this.qC,this.iK,this.aK⟩
  ·exact h.tw t (by simp[a])
 ·rw[h.eq id c hc,jm,jm,jm,jm];cases hh:x.holds <;> simp[wQ,tq,Tr.at]
theorem vG.iW{V:aS}{k tb:Nat}{x:Tg}{b:Int}{bM:Lm}(h:vG V)(hx:V.lg.tr[k]?=some x):vG { V with lg:=V.lg.mX k tb x b,lm:=bM }:=by
 have hs:=h.sy x (List.mem_of_getElem? hx);refine⟨h.sz,h.fl.af hx,fun y hy=>?_,h.tp.jD rfl hs,h.nm.set hx (y:=⟨x.t.at b,x.holds⟩) rfl rfl,h.dy⟩;have hy':y∈V.lg.tr.set k ⟨x.t.at b,x.holds⟩:=hy;rcases List.mem_or_eq_of_mem_set hy' with hh | hh
 ·exact h.sy y hh
 ·rw[hh];exact hs
end Go.Proofs.YtigaphnafnpfnaaGreatDoor
