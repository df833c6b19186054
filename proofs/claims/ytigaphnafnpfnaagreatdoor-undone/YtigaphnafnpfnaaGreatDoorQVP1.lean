import Derived.Test.YtigaphnafnpfnaaGreatDoorQVQ2
import Derived.ArgAppend
import Derived.Deep.DeepAppendRoom
set_option linter.unusedVariables false
set_option linter.unusedSimpArgs false
namespace Go.Proofs.YtigaphnafnpfnaaGreatDoor
open Go.RowKit
def Fj(tr:List Tg):Prop:=∀(k:Nat) (x:Tg),tr[k]?=some x->x.t.num=(k:Int)+1
theorem Fj.iT{tr:List Tg}{x:Tg}(h:Fj tr)(hx:x.t.num=(tr.length:Int)+1):Fj (tr++[x]):=by
 intro k y hy
 by_cases hk:k<tr.length
 ·rw[List.getElem?_append_left hk]at hy;exact h k y hy
 ·rw[List.getElem?_append_right (by omega)]at hy
  have:k-tr.length=0:=by
   cases e:k-tr.length with
   | zero=>rfl
   | succ m=>rw[e]at hy;simp at hy
  rw[this]at hy
  simp only[List.getElem?_cons_zero,Option.some.injEq]at hy
  subst hy
  rw[hx]
  have:k=tr.length:=by omega
  rw[this]
theorem Fj.set{tr:List Tg}{x:Tg}{k:Nat}(h:Fj tr)(hx:x.t.num=(k:Int)+1):Fj (tr.set k x):=by
 intro j y hy
 rw[List.getElem?_set]at hy
 split at hy
 ·split at hy
  ·simp only[Option.some.injEq]at hy;subst hy;rename_i e _;rw[<-e];exact hx
  ·simp at hy
 ·exact h j y hy
theorem uH{tr:List Tg}{k:Nat}{x:Tg}(h:Fj tr)(hx:tr[k]?=some x) :
 held tr=held (tr.take k)++(if x.holds then [x.t] else [])++held (tr.drop (k+1))/\(∀t∈held (tr.take k),t.num<(k:Int)+1)/\(∀t∈held (tr.drop (k+1)),(k:Int)+1<t.num):=by
 refine⟨?_,fun t ht=>?_,fun t ht=>?_⟩
 ·have e:=congrArg held (Ar hx)
  rw[dD,dD,jy]at e
  exact e
 ·obtain⟨y,hy,rfl⟩:=zG ht
  obtain⟨j,hj⟩:=List.mem_iff_getElem?.1 hy
  rw[List.getElem?_take]at hj
  split at hj
  ·have:=h j y hj;omega
  ·simp at hj
 ·obtain⟨y,hy,rfl⟩:=zG ht
  obtain⟨j,hj⟩:=List.mem_iff_getElem?.1 hy
  rw[List.getElem?_drop]at hj
  have:=h _ y hj
  push_cast at this
  omega
inductive lJ:List Tr->Rc->List Tr->Prop
 | print {a b:List Tr} {r:Rc} (hk:r.kind=1) (h1:∀t∈a,t.num<r.t.num) (h2:∀t∈b,r.t.num<t.num):lJ (a++b) r (a++[r.t]++b)
 | wU {a b:List Tr} {r:Rc} (hk:r.kind=2) (h1:∀t∈a,t.num<r.t.num) (h2:∀t∈b,r.t.num<t.num):lJ (a++[r.t]++b) r (a++b)
 | iw {a b:List Tr} {r:Rc} {t:Tr} (hk:r.kind=3) (ht:t.num=r.t.num) (h1:∀t∈a,t.num<r.t.num) (h2:∀t∈b,r.t.num<t.num):lJ (a++[t]++b) r (a++[r.t]++b)
 | close {a:List Tr} {r:Rc} (hk:r.kind=4):lJ a r a
inductive jT:List Rc->List Tr->Prop
 | nil:jT [] []
 | iT {rs:List Rc} {r:Rc} {a b:List Tr} (h:jT rs a) (hr:lJ a r b) (hn:r.num=(rs.length:Int)+1):jT (rs++[r]) b
structure Told(tr:List Tg)(tp:List Rc):Prop where
 num:Fj tr
 Jl:jT tp (held tr)
theorem Told.start:Told [] []:=⟨fun k x h=>by simp at h,.nil⟩
theorem Told.print{tr:List Tg}{tp:List Rc}{t:Tr}{r:Rc}(h:Told tr tp)(ht:t.num=(tr.length:Int)+1)(hr:r.t=t)(hk:r.kind=1)(hn:r.num=(tp.length:Int)+1):Told (tr++[⟨t,true⟩]) (tp++[r]):=by
 refine⟨h.num.iT ht,?_⟩
 rw[dD,jy]
 have hb:∀x∈held tr,x.num<r.t.num:=fun x hx=>by
  obtain⟨y,hy,rfl⟩:=zG hx
  obtain⟨j,hj⟩:=List.mem_iff_getElem?.1 hy
  have:=h.num j y hj
  have:=(List.getElem?_eq_some_iff.1 hj).1
  rw[hr];omega
 have hF:=lJ.print (a:=held tr) (b:=[]) (r:=r) hk hb (fun x hx=>by simp at hx)
 rw[List.append_nil,List.append_nil,hr]at hF
 simpa using jT.iT h.Jl hF hn
theorem Told.wU{tr:List Tg}{tp:List Rc}{k:Nat}{x:Tg}{r:Rc}(h:Told tr tp)(hx:tr[k]?=some x)(hh:x.holds=true)(hr:r.t=x.t)(hk:r.kind=2)(hn:r.num=(tp.length:Int)+1):Told (tr.set k ⟨x.t,false⟩) (tp++[r]):=by
 have hl:=(List.getElem?_eq_some_iff.1 hx).1
 have hnum:=h.num k x hx
 obtain⟨e,h1,h2⟩:=uH h.num hx
 refine⟨h.num.set hnum,?_⟩
 rw[pU hl,dD,dD,jy]
 rw[hh]at e
 have hF:=lJ.wU (a:=held (tr.take k)) (b:=held (tr.drop (k+1))) (r:=r) hk (fun t ht=>by rw[hr,hnum];exact h1 t ht) (fun t ht=>by rw[hr,hnum];exact h2 t ht)
 rw[hr]at hF
 have hf:=h.Jl
 rw[e]at hf
 simpa using jT.iT hf (by simpa using hF) hn
theorem Told.again{tr:List Tg}{tp:List Rc}{k:Nat}{x:Tg}{r:Rc}(h:Told tr tp)(hx:tr[k]?=some x)(hh:x.holds=false)(hr:r.t=x.t)(hk:r.kind=1)(hn:r.num=(tp.length:Int)+1):Told (tr.set k ⟨x.t,true⟩) (tp++[r]):=by
 have hl:=(List.getElem?_eq_some_iff.1 hx).1
 have hnum:=h.num k x hx
 obtain⟨e,h1,h2⟩:=uH h.num hx
 refine⟨h.num.set hnum,?_⟩
 rw[pU hl,dD,dD,jy]
 rw[hh]at e
 have hF:=lJ.print (a:=held (tr.take k)) (b:=held (tr.drop (k+1))) (r:=r) hk (fun t ht=>by rw[hr,hnum];exact h1 t ht) (fun t ht=>by rw[hr,hnum];exact h2 t ht)
 rw[hr]at hF
 have hf:=h.Jl
 rw[e]at hf
 simpa using jT.iT (by simpa using hf) (by simpa using hF) hn
theorem Told.iw{tr:List Tg}{tp:List Rc}{k:Nat}{x:Tg}{t:Tr}{r:Rc}(h:Told tr tp)(hx:tr[k]?=some x)(hh:x.holds=true)(ht:t.num=x.t.num)(hr:r.t=t)(hk:r.kind=3)(hn:r.num=(tp.length:Int)+1):Told (tr.set k ⟨t,true⟩) (tp++[r]):=by
 have hl:=(List.getElem?_eq_some_iff.1 hx).1
 have hnum:=h.num k x hx
 obtain⟨e,h1,h2⟩:=uH h.num hx
 refine⟨h.num.set (by simp only[ht];exact hnum),?_⟩
 rw[pU hl,dD,dD,jy]
 rw[hh]at e
 have hF:=lJ.iw (a:=held (tr.take k)) (b:=held (tr.drop (k+1))) (r:=r) (t:=x.t) hk (by rw[hr,ht]) (fun y hy=>by rw[hr,ht,hnum];exact h1 y hy) (fun y hy=>by rw[hr,ht,hnum];exact h2 y hy)
 rw[hr]at hF
 have hf:=h.Jl
 rw[e]at hf
 simpa using jT.iT hf (by simpa using hF) hn
theorem Told.close{tr:List Tg}{tp:List Rc}{r:Rc}(h:Told tr tp)(hk:r.kind=4)(hn:r.num=(tp.length:Int)+1):Told tr (tp++[r]):=⟨h.num,.iT h.Jl (.close hk) hn⟩
def Lg.Told(G:Lg):Prop:=Go.Proofs.YtigaphnafnpfnaaGreatDoor.Told G.tr G.tp
theorem Lg.Told.jG{G:Lg}(h:G.Told)(t:Tr):(G.jG t).Told:=Go.Proofs.YtigaphnafnpfnaaGreatDoor.Told.print h (t:=G.iC t) rfl rfl rfl rfl
theorem Lg.Told.dh{G:Lg}(h:G.Told)(om:Nat->Ord)(oc ow:Nat):(dh G om oc ow).Told:=by
 unfold Lg.Told
 rw[gu,mX]
 exact h
theorem Kq{oc s:Nat}{st:MS}(h:st.lg.Told):(bz oc s st).lg.Told:=by
 unfold bz
 split
 ·exact h
 ·exact (h.dh _ _ _).jG _
theorem Ko{oc s:Nat}:∀(k:Nat) (st:MS),st.lg.Told->(aZ oc s k st).lg.Told:=by
 intro k
 induction k with
 | zero=>intro st h;exact h
 | succ k ih =>
   intro st h
   unfold aZ
   split
   ·exact h
   ·exact ih _ (Kq h)
inductive kY (t0:List Tg):List (Int × Tr)->List Tg->Prop
 | refl:kY t0 [] t0
 | print {B:List (Int × Tr)} {t:List Tg} {x:Tr} (h:kY t0 B t) (hn:x.num=(t.length:Int)+1):kY t0 (B++[(2,x)]) (t++[⟨x,true⟩])
 | wU {B:List (Int × Tr)} {t:List Tg} {k:Nat} {x:Tr} (h:kY t0 B t) (hx:t[k]?=some ⟨x,true⟩):kY t0 (B++[(1,x)]) (t.set k ⟨x,false⟩)
 | iw {B:List (Int × Tr)} {t:List Tg} {k:Nat} {x y:Tr} (h:kY t0 B t) (hx:t[k]?=some ⟨x,true⟩) (hy:y.num=x.num):kY t0 (B++[(3,x)]) (t.set k ⟨y,true⟩)
theorem G9{t:List Tg}{k:Nat}{x y:Tg}(hx:t[k]?=some x):(t.set k y).set k x=t:=by
 rw[List.set_set]
 obtain⟨hk,e⟩:=List.getElem?_eq_some_iff.1 hx
 rw[<-e,List.set_getElem_self]
theorem KO{t:List Tg}{k:Nat}{x y:Tg}(hx:t[k]?=some x):(t.set k y)[k]?=some y:=by
 obtain⟨hk,_⟩:=List.getElem?_eq_some_iff.1 hx
 rw[List.getElem?_set_self hk]
theorem kY.mi{t0:List Tg}{B:List (Int × Tr)}{t:List Tg}(h:kY t0 B t):∀{tp:List Rc},Told t tp->Told t0 (oU tp B.reverse):=by
 induction h with
 | refl=>intro tp ht;exact ht
 | print h hn ih =>
   rename_i B t x
   intro tp ht
   rw[List.reverse_append]
   have e0:(t++[(⟨x,true⟩:Tg)])[t.length]?=some ⟨x,true⟩:=by simp
   have h1:=ht.wU (r:=⟨(tp.length:Int)+1,2,x⟩) e0 rfl rfl rfl rfl
   refine ih (tp:=tp++[⟨(tp.length:Int)+1,2,x⟩]) ⟨fun k y hy=>ht.num k y ?_,?_⟩
   ·have:=(List.getElem?_eq_some_iff.1 hy).1
    rw[List.getElem?_append_left this];exact hy
   ·have h2:=h1.Jl
    have e1:(t++[(⟨x,true⟩:Tg)]).set t.length ⟨x,false⟩=t++[⟨x,false⟩]:=by simp
    rw[e1,dD,jy]at h2
    simpa using h2
 | wU h hx ih =>
   rename_i B t k x
   intro tp ht
   rw[List.reverse_append]
   have h1:=ht.again (r:=⟨(tp.length:Int)+1,1,x⟩) (KO (y:=⟨x,false⟩) hx) rfl rfl rfl rfl
   rw[G9 hx]at h1
   exact ih h1
 | iw h hx hy ih =>
   rename_i B t k x y
   intro tp ht
   rw[List.reverse_append]
   have h1:=ht.iw (t:=x) (r:=⟨(tp.length:Int)+1,3,x⟩) (KO (y:=⟨y,true⟩) hx) rfl hy.symm rfl rfl rfl
   rw[G9 hx]at h1
   exact ih h1
def TT(t0:List Tg)(G:Lg):Prop:=kY t0 (jI G.nt) G.tr
theorem TT.aV{t0:List Tg}{G:Lg}(h:TT t0 G){ds:List dS}(hd:jI ds=[]):TT t0 (G.aV ds):=by
 show kY t0 (jI (G.nt++ds)) G.tr
 rw[ig,hd,List.append_nil];exact h
theorem TT.bz{t0:List Tg}{oc s:Nat}{st:MS}(h:TT t0 st.lg):TT t0 (Go.Proofs.YtigaphnafnpfnaaGreatDoor.bz oc s st).lg:=by
 unfold Go.Proofs.YtigaphnafnpfnaaGreatDoor.bz
 split
 ·exact h.aV rfl
 ·have h':TT t0 (dh st.lg st.om oc (st.B.h s 0)):=by
   unfold dh
   split
   ·exact (h.aV rfl).aV rfl
   ·exact h.aV rfl
  generalize dh st.lg st.om oc (st.B.h s 0)=G at h'
  generalize iG st.B st.om oc (st.B.h s 0)=t
  show kY t0 (jI (G.nt++[.iH (G.iC t)])) (G.tr++[⟨G.iC t,true⟩])
  rw[ig]
  exact kY.print h' rfl
theorem TT.match{t0:List Tg}{oc s:Nat}:∀(f:Nat) (st:MS),TT t0 st.lg->TT t0 (aZ oc s f st).lg
 | 0,st,h=>h
 | f+1,st,h=>by
   rw[aZ]
   split
   ·exact h
   ·exact TT.match f _ h.bz
theorem TT.O7{t0:List Tg}{oc s:Nat}{st:MS}(h:TT t0 st.lg):TT t0 (gJ oc (mF oc s st)) :=
 TT.aV (TT.match (oc:=oc) (s:=s) (mu oc s st) st h) (by split <;> rfl)
theorem Dt{oc s:Nat}{st:MS}(h:st.lg.Told):(gJ oc (mF oc s st)).Told:=Ko (oc:=oc) (s:=s) (mu oc s st) st h
theorem Told.lI{G:Lg}(h:G.Told){k tb:Nat}{x:Tg}{p:Int}(hx:G.tr[k]?=some x)(hh:x.holds=true):(G.lI k tb x p).Told:=by
 have:=Told.iw h (t:=x.t.at p) (r:=⟨(G.tp.length:Int)+1,3,x.t.at p⟩) hx hh rfl rfl rfl rfl
 show Go.Proofs.YtigaphnafnpfnaaGreatDoor.Told (G.tr.set k ⟨x.t.at p,x.holds⟩) (G.tp++[⟨(G.tp.length:Int)+1,3,x.t.at p⟩])
 rw[hh];exact this
theorem MB{oc s:Nat}{M:Int}{st0:MS}(hM:M<=1000000000000000)(run:LW oc s M st0 (mF oc s st0)) :
 (aF oc (mF oc s st0) oc).entered=(st0.om oc).entered/\(aF oc (mF oc s st0) oc).exp=(st0.om oc).exp/\(aF oc (mF oc s st0) oc).filled=((mF oc s st0).om oc).filled/\(st0.om oc).bQ<=(aF oc (mF oc s st0) oc).bQ/\Qo M (aF oc (mF oc s st0) oc):=by
 have hq:=run.q oc (.inl rfl)
 have hs:=run.dH oc
 have hc:=run.bQ
 unfold aF
 split
 ·rw[aj]
  exact⟨hs.2.2.2.2.2.2.2.2.1,hs.2.2.2.2.2.2.2.2.2,rfl,by show _<=((mF oc s st0).om oc).bQ;omega,⟨hq.sum,hq.o0,hq.f0,hq.c0,hq.e0,hq.hi⟩⟩
 ·rw[aj]
  obtain⟨c1,c2,c3⟩:=hq.bQ hM
  exact⟨hs.2.2.2.2.2.2.2.2.1,hs.2.2.2.2.2.2.2.2.2,rfl,by rw[c3];have:=hq.o0;omega,c1⟩
theorem NK{o:iL}{b s:Nat}{M:Int}{B:Bk}{om:Nat->Ord}{lg:Lg}(hM:M<=1000000000000000)(run:LW b s M ⟨B,aN om b (aJ o),lg⟩ (mF b s ⟨B,aN om b (aJ o),lg⟩))(hlen:lg.tr.length+(B.n s+1)<=1000000000) :
 ∃f r c a m,jE (aJ o) (aF b (mF b s ⟨B,aN om b (aJ o),lg⟩) b) (lg.tr.length:Int) ((mF b s ⟨B,aN om b (aJ o),lg⟩).lg.tr.length:Int)=lq f r c a m/\f+r+c=o.aI/\0<=f/\0<=r/\0<=c/\(m=0↔f=0)/\f<=M/\r<=M/\c<=M:=by
 obtain⟨e1,e2,e3,e4,hq⟩:=MB hM run
 have hfil:=run.Zm
 have PQ:=run.eqv
 have F8:=run.trl
 have hl:=(JO (oc:=b) (s:=s) (st:=⟨B,aN om b (aJ o),lg⟩)).1
 simp only[aj]at e1 e2 e4 hfil PQ
 simp only[MS.tr]at PQ F8
 simp only at hl
 generalize aF b (mF b s ⟨B,aN om b (aJ o),lg⟩) b=O at *
 generalize hst:mF b s ⟨B,aN om b (aJ o),lg⟩=st at *
 have n1:(aJ o).entered=o.aI:=rfl
 have n2:(aJ o).filled=0:=rfl
 have n3:(aJ o).bQ=0:=rfl
 have n4:(aJ o).exp=0:=rfl
 rw[n1]at e1;rw[n4]at e2;rw[n3]at e4;rw[n2]at hfil PQ
 have q1:=hq.sum;have q2:=hq.o0;have q3:=hq.f0;have q4:=hq.c0;have q5:=hq.hi
 have w1:wrap64 (O.filled-(aJ o).filled)=O.filled:=by rw[n2];rw[aS (by omega) (by omega)];omega
 have w2:wrap64 (O.bQ-(aJ o).bQ)=O.bQ:=by rw[n3];rw[aS (by omega) (by omega)];omega
 unfold jE
 rw[w1,w2]
 split
 ·rename_i hlt
  refine⟨O.filled,O.aK,O.bQ,_,_,rfl,by omega,by omega,by omega,by omega,?_,by omega,by omega,by omega⟩
  rw[aS (x:=((st.lg.tr.length:Int)-(lg.tr.length:Int))) (by omega) (by omega),e3]
  constructor
  ·intro h;omega
  ·intro h;have:=PQ.1 (by omega);omega
 ·rename_i hlt
  refine⟨O.filled,O.aK,O.bQ,0,0,rfl,by omega,by omega,by omega,by omega,?_,by omega,by omega,by omega⟩
  rw[e3]
  exact⟨fun _=>by rw[PQ.2 (by omega)],fun _=>rfl⟩
open Go.RowKit Go.Maps Go.Shelf
structure BF(new:Int->Prop)(QG:List ByteArray)(V V':aQ)(B:List (Int × Tr)):Prop where
 aU:∀id,(V'.aU id).isSome=true↔((V.aU id).isSome=true\/new id)
 nb:V'.nb=V.nb+QG.length
 sy:∀i,i<V.nb->(V'.B i).sym=(V.B i).sym
 ns:∀(j:Nat) (s:ByteArray),QG[j]?=some s->(V'.B (V.nb+j)).sym=s
 turn:kY V.lg.tr B V'.lg.tr
 told:Told V.lg.tr V.lg.tp->Told V'.lg.tr V'.lg.tp
 no:V'.no<=V.no+1
def SL(bv bm bo:Nat)(V:aQ)(S:RS)(N:Nat)(new:Int->Prop)(QG:List ByteArray)(w w':World):Prop :=
 Next bv bm bo V (fun V'=>∃S' p',di p' V' S' (N+1)/\V'.lg.tp=lY V.lg.tp S'.told/\S'.told.length<=201/\uB V'/\BC bv bm bo V V' (vH S.t S'.told) w.heap.size w'/\BF new QG V V' (vH S.t S'.told)) w w'
def IW(bv bm bo:Nat)(V:aQ)(S:RS)(N:Nat)(new:Int->Prop)(QG:List ByteArray)(E:Int)(w w':World):Prop :=
 (E≠0/\au aP w w')\/(E=0/\SL bv bm bo V S N new QG w w')
def Sv:Int->Prop:=fun _=>False
def IE:List ByteArray:=[]
theorem BF.plain{V V':aQ}{B:List (Int × Tr)}(h1:V'.aU=V.aU)(h2:V'.nb=V.nb)(h3:∀i,i<V.nb->(V'.B i).sym=(V.B i).sym)(h4:kY V.lg.tr B V'.lg.tr)(h5:Told V.lg.tr V.lg.tp->Told V'.lg.tr V'.lg.tp)(h6:V'.no<=V.no+1):BF Sv IE V V' B :=
 ⟨fun id=>by rw[h1];exact⟨.inl,fun h=>h.elim id' (fun z=>z.elim)⟩,by rw[h2];rfl,h3,fun j s h=>by simp[IE]at h,h4,h5,h6⟩
where id' {p:Prop} (h:p):p:=h
theorem xI{V:aQ}{i:Nat}{B':Bk}{dG:Nat->Ord}{G':Lg}{bH:Lm}(h:B'.sym=(V.B i).sym)(j:Nat):((V.jS i B' dG G' bH).B j).sym=(V.B j).sym:=by
 show (aN V.B i B' j).sym=_
 by_cases e:j=i
 ·rw[e,aj,h]
 ·rw[ah _ _ e]
theorem CJ(bv bm bo N:Nat)(V:aQ)(p:Nat->Nat)(S:RS)(s:ByteArray)(w:World)(R:dN w bv bm bo V)(h:di p V S N)(hN:N<2900000)(hz:uB V)(hs:s.size<=1000000000) :
 Calls Tryz.prog 27 #[.pointer (some ⟨bv,0,none⟩),.string s] w fun e w'=>e=.returned (.int .i64 (lN S.sy s))/\IW bv bm bo V S N Sv [s] (lN S.sy s) w w':=by
 have hml:s.size<=maxLen:=by unfold maxLen;omega
 have hname:=Jt s hs
 have hnb:=h.nb
 have h6:=h.QB
 have hsy:S.sy.length<=1000:=by omega
 rcases JI S.sy s with⟨h1,h2⟩|⟨h1,h2,h3⟩|⟨h1,h2,h3,h4⟩|⟨h1,h2,h3,h4⟩
 ·rw[h1]at hname
  refine (Nv bv s w hname).mono ?_
  rintro e w' ⟨rfl,k⟩
  rw[h2];exact⟨rfl,.inl ⟨by decide,k⟩⟩
 ·rw[h1]at hname
  obtain⟨i,hi,hsi⟩:=(h.fV s).1 h2
  refine (JK bv bm bo i V s w R hname hml hi hsi).mono ?_
  rintro e w' ⟨rfl,k⟩
  rw[h3];exact⟨rfl,.inl ⟨by decide,k⟩⟩
 ·rw[h1]at hname
  have hfree:∀i,i<V.nb->(V.B i).sym≠s:=fun i hi e=>by rw[(h.fV s).2 ⟨i,hi,e⟩]at h2;exact absurd h2 (by decide)
  simp only[ge_iff_le,decide_eq_true_eq]at h3
  refine (JJ bv bm bo V s w R hname hml hfree (by omega)).mono ?_
  rintro e w' ⟨rfl,k⟩
  rw[h4];exact⟨rfl,.inl ⟨by decide,k⟩⟩
 ·rw[h1]at hname
  have hfree:∀i,i<V.nb->(V.B i).sym≠s:=fun i hi e=>by rw[(h.fV s).2 ⟨i,hi,e⟩]at h2;exact absurd h2 (by decide)
  simp only[ge_iff_le,decide_eq_false_iff_not]at h3
  have hsz:=Ny h1
  have hna:=h.yK
  obtain⟨ol,hol,hov⟩:=h.ol
  have uV:=h.uV
  refine (XI bv bm bo V s w (FB V) R hname (by omega) hfree (by omega) (by omega)).mono ?_
  rintro e w' ⟨b,bH,rfl,hb,R',k,hf,cl,cu⟩
  rw[h4]
  refine⟨rfl,.inr ⟨rfl,_,R',⟨S.fresh.lists s,p,h.cO hfree (by omega),rfl,by show 0<=201;omega,?_,Ph R hov (by omega) (by omega) hml R' cu,⟨fun id=>⟨.inl,fun h=>h.elim (fun z=>z) (fun z=>z.elim)⟩,rfl,fun i hi=>by have:(V.cO s b bH).B i=V.B i:=ah _ _ (by omega);rw[this],fun j s' hj=>by cases j with|zero=>(have:(V.cO s b bH).B V.nb=kK s:=aj _ _ _);(simp only[List.getElem?_cons_zero,Option.some.injEq]at hj);(show ((V.cO s b bH).B V.nb).sym=s');(rw[this,<-hj];rfl)|succ j=>simp at hj,kY.refl,fun z=>z,Nat.le_succ _⟩⟩,k.mono (fun x hx=>?_),fun x hx=>?_⟩⟩
  ·refine⟨?_,hz.fl,hz.sy,hz.tp,hz.nm,hz.dy⟩
   intro i hi
   by_cases e:i<V.nb
   ·have:(V.cO s b bH).B i=V.B i:=ah _ _ (by omega)
    rw[this];exact hz.sz i e
   ·have e2:i=V.nb:=by have:(V.cO s b bH).nb=V.nb+1:=rfl;omega
    subst e2
    have:(V.cO s b bH).B V.nb=kK s:=aj _ _ _
    rw[this]
    show s.size<=100
    omega
  ·rcases hx with hx|hx|hx
   ·exact .inr (.inl hx)
   ·exact .inl hx
   ·exact .inr (.inr (.inr (.inr (.inr hx))))
  ·rcases hx with hx|hx|hx|⟨i,hi,hx⟩|hx|hx
   ·exact .inl (.inl hx)
   ·exact .inl (.inr (.inl hx))
   ·exact .inl (.inr (.inr (.inl hx)))
   ·by_cases e:i<V.nb
    ·have e1:(V.cO s b bH).B i=V.B i:=ah _ _ (by omega)
     have e2:(V.cO s b bH).bk i=V.bk i:=ah _ _ (by omega)
     rw[e1,e2]at hx
     exact .inl (.inr (.inr (.inr (.inl ⟨i,e,hx⟩))))
    ·have e2:i=V.nb:=by have:(V.cO s b bH).nb=V.nb+1:=rfl;omega
     subst e2
     have e1:(V.cO s b bH).B V.nb=kK s:=aj _ _ _
     have e2:(V.cO s b bH).bk V.nb=b:=aj _ _ _
     rw[e1,e2]at hx
     rcases hx with hx|⟨t,ht,hx⟩
     ·right;omega
     ·exact absurd hx (vP s t x)
   ·exact .inl (.inr (.inr (.inr (.inr (.inl hx)))))
   ·exact (hf x hx).imp_left (fun h=>.inr (.inr (.inr (.inr (.inr h)))))
theorem Gm(bv bm bo N:Nat)(V:aQ)(p:Nat->Nat)(S:RS)(id:Int)(w:World)(R:dN w bv bm bo V)(hT:oC w)(h:di p V S N)(hN:N<2900000)(hz:uB V)(hwf:(Lit.int .i64 id).wf=true) :
 Calls Tryz.prog 37 #[.pointer (some ⟨bv,0,none⟩),.int .i64 id] w fun e w'=>∃E,e=.returned (.int .i64 E)/\(E=0\/E=6\/E=10)/\IW bv bm bo V S N Sv IE E w w':=by
 have hlen:S.l.length<=1000:=by have:=h.no;have:=h.gp;omega
 rcases h.zZ id with⟨h1,h2⟩|⟨j,h1,h2,h3,⟨h4,h5⟩|⟨h4,h4',h5⟩⟩
 ·refine (zk bv bm bo V id w R hwf h1).mono ?_
  rintro e w' ⟨rfl,k⟩
  exact⟨6,rfl,by decide,.inl ⟨by decide,k⟩⟩
 ·refine (BJ bv bm bo (p j) V id w R hwf h3 h4).mono ?_
  rintro e w' ⟨rfl,k⟩
  exact⟨10,rfl,by decide,.inl ⟨by decide,k⟩⟩
 ·have ug:VL V (p j):=⟨id,h3⟩
  obtain⟨i,s,k,hi,hs,hk,hkb,a,c⟩:=h.open ug h4
  rw[<-hkb]at h3 h4 a c ug
  obtain⟨ol,hol,hov⟩:=h.ol
  have uV:=h.uV
  refine (O3 bv bm bo i s k V id w (FB V) (rY h.gw hi hs hk) R hT hwf hi hs hk h3 h4 c a (by have:=hz.sz i hi;unfold maxLen;omega) (by have:=h.yK;omega)).mono ?_
  rintro e w' ⟨rfl,hm,⟨bH,hl,hf,cl,cu⟩,kc⟩
  refine⟨0,rfl,by decide,.inr ⟨rfl,Next.with (Next.of R hi _ hm hl hf kc (fun x hx=>?_) (fun j hj hne t ht l hl=>?_) (fun x=>?_) rfl (fun t ht x hx=>?_) rfl) (fun R'=>⟨S.fresh.uC j,p,h.uC (ds:=[.left ((V.B i).h s k),.fA ((V.B i).h s k) (V.om ((V.B i).h s k))]) hN hi hs hk h2 hkb.symm,rfl,by show 0<=201;omega,hz.turn rfl (IB ⟨rfl,rfl,rfl,rfl⟩) rfl rfl rfl,Jg R h.gw hov (by omega) (by omega) hi hs hk (rY h.gw hi hs hk) R' cu,BF.plain rfl rfl (fun x _=>xI (by rfl) x) kY.refl (fun z=>z) (Nat.le_succ _)⟩)⟩⟩
  ·rcases hx with hx|hx|hx|hx
   ·exact .inl hx
   ·exact .inr (.inl hx)
   ·exact .inr (.inr (.inl hx))
   ·exact .inr (.inr (.inr (.inl ⟨s,hs,hx⟩)))
  ·refine ah _ _ (fun e=>h.apart R ug a hi j hj hne t ht ?_)
   rw[<-e];exact .inr ⟨l,hl,rfl⟩
  ·by_cases e:x=(V.B i).h s k
   ·rw[e,aj];rfl
   ·rw[ah _ _ e]
  ·left
   by_cases e:t=s
   ·subst e
    refine⟨t,ht,?_⟩
    rcases hx with hx|⟨l,hl,hx⟩
    ·exact .inl hx
    ·obtain⟨k',hk',e',_⟩:=nG (om:=V.om) ((h.gw.gb i hi).inj t ht) hk l hl
     exact .inr ⟨k',hk',by rw[hx,e']⟩
   ·refine⟨t,ht,?_⟩
    unfold dC at hx ⊢
    simp only[Bk.leave,ah _ _ e]at hx
    exact hx
theorem Ef(bv bm bo N:Nat)(V:aQ)(p:Nat->Nat)(S:RS)(id af aI:Int)(w:World)(R:dN w bv bm bo V)(hT:oC w)(h:di p V S N)(hN:N<2900000)(hz:uB V)(hwf:(Lit.int .i64 id).wf=true)(hp:fH af=true)(hq:fH aI=true) :
 Calls Tryz.prog 38 #[.pointer (some ⟨bv,0,none⟩),.int .i64 id,.int .i64 af,.int .i64 aI] w fun e w'=>∃f r n a c E,e=.returned (.tuple #[lq f r n a c,.int .i64 E])/\(E=0\/E=6\/E=10)/\IW bv bm bo V S N Sv IE E w w':=by
 have hlen:S.l.length<=1000:=by have:=h.no;have:=h.gp;omega
 have uV:=h.uV
 have yE:=h.yE
 have yK:=h.yK
 have no2:=h.gp
 rcases h.zZ id with⟨h1,h2⟩|⟨j,h1,h2,h3,⟨h4,h5⟩|⟨h4,h4',h5⟩⟩
 ·refine (yB bv bm bo V id af aI w R hwf h1).mono ?_
  rintro e w' ⟨rfl,k⟩
  exact⟨0,0,0,0,0,6,rfl,by decide,.inl ⟨by decide,k⟩⟩
 ·refine (Ah bv bm bo (p j) V id af aI w R hwf h3 h4).mono ?_
  rintro e w' ⟨rfl,k⟩
  exact⟨0,0,0,0,0,10,rfl,by decide,.inl ⟨by decide,k⟩⟩
 ·by_cases hnum:True
  ·have KR:1<=aI/\aI<=1000000:=by simpa [fH] using hq
   have ug:VL V (p j):=⟨id,h3⟩
   obtain⟨i,t,k,hi,ht,hk,hkb,a,c⟩:=h.open ug h4
   have hap:=h.apart R ug a hi
   obtain⟨e1,e2,e3,e4,e5,e6,e7,e8,e9,e10,e11,e12⟩:=fE (h.same j h2)
   have h00:=(h.gw.q _ ug).o0
   obtain⟨ol,hol,hov⟩:=h.ol
   by_cases hkeep:af=(V.om (p j)).af/\aI<=(V.om (p j)).aK
   ·refine (Ai bv bm bo (p j) i V id af aI w (FB V) R hT hwf h3 h4 hp hq hi hkeep.1 hkeep.2 (by omega)).mono ?_
    rintro e w' ⟨rfl,hm,⟨bH,hl,hf,cl,cu⟩,kc⟩
    refine⟨0,aI,0,0,0,0,rfl,by decide,.inr ⟨rfl,Next.with (Next.of R hi _ hm hl hf kc (fun x hx=>?_) (fun j' hj' hne t' ht' l hl=>?_) (fun x=>?_) rfl (fun t' ht' x hx=>.inl ⟨t',ht',hx⟩) rfl) (fun R'=>⟨_,p,h.keeps (i:=i) (ds:=[.fA (p j) (V.om (p j))]) hN h2 hkeep.1 KR.1 KR.2 (by omega),rfl,by show 0<=201;omega,hz.turn rfl (IB ⟨rfl,rfl,rfl,rfl⟩) rfl rfl rfl,Pg R hov (by omega) (by omega) ug hkeep.1 R' cu,BF.plain rfl rfl (fun x _=>xI (by rfl) x) kY.refl (fun z=>z) (Nat.le_succ _)⟩)⟩⟩
    ·rcases hx with hx|hx|hx
     ·exact .inl hx
     ·exact .inr (.inl hx)
     ·exact .inr (.inr (.inr (.inr ⟨by rw[hx];exact ug,by rw[hx];exact hap⟩)))
    ·refine ah _ _ (fun e=>hap j' hj' hne t' ht' ?_)
     rw[<-e];exact .inr ⟨l,hl,rfl⟩
    ·by_cases e:x=p j
     ·rw[e,aj];rfl
     ·rw[ah _ _ e]
   ·obtain⟨s,hs,hts⟩:∃s,s<2/\t=1-s:=⟨1-t,by omega,by omega⟩
    have hcn:=h.count hi ht
    have hcs:=h.count hi hs
    have iv:=(h.oG (g:=0) (cap':=0) (bH:=V.lm) (af:=af) hN hi hs hts hk h2 hkb KR.1 KR.2).1
    refine (Ag bv bm bo (p j) i s t k V id af aI w (FB V) (fun y hy l hl=>rY h.gw hi hy hl) R hT hwf h3 h4 hp hq hi a (by have:=hz.sz i hi;unfold maxLen;omega) hs hts hk hkb c hkeep iv (by omega) (by omega) (by omega) (by omega) (by omega)).mono ?_
    rintro e w' ⟨v,w3,kR,rfl,k3,hf3,w4,⟨hv,g,cap',bH,hm,hl,hf,k4,hg,ext,cl,cu,hsg⟩,hr4,k5⟩
    obtain⟨_,c',f,hEn,ZA,eu,hrep,htp,htold⟩:=h.oG (g:=g) (cap':=cap') (bH:=bH) (af:=af) hN hi hs hts hk h2 hkb KR.1 KR.2
    obtain⟨gv,run,ivz,hBs,_⟩:=h.gw.oG (g:=g) (cap':=cap') (bH:=bH) (qI (Nat.le_add_right N 1)) (by unfold mN;omega) hi hs hts hk hkb (o':=dP (V.om (p j)) af aI) rfl rfl (EJ (M':=mN (N+1)) (h.gw.q _ ug) (by unfold mN;push_cast;omega) (by unfold mN;omega) KR.1 KR.2).1
    obtain⟨rf,rr,rn,ra,rk,hrv⟩:=QQ j c'
    refine⟨rf,rr,rn,ra,rk,0,?_,by decide,.inr ⟨rfl,?_⟩⟩
    ·rw[<-hrv,<-hrep,hv]
     simp only[aj]
     rfl
    have sz3:=k3.size
    have Rl:∀y,y<2->∀x,dC ((V.B i).leave V.om t k) y x->dC (V.B i) y x:=fun y hy x hx=>by
     by_cases e:y=t
     ·subst e
      rcases hx with hx|⟨l,hl,hx⟩
      ·exact .inl hx
      ·obtain⟨k',hk',e',_⟩:=nG (om:=V.om) ((h.gw.gb i hi).inj y hy) hk l hl
       exact .inr ⟨k',hk',by rw[hx,e']⟩
     ·unfold dC at hx ⊢
      simp only[Bk.leave,ah _ _ e]at hx
      exact hx
    obtain⟨f1,f2,f3,f4,f5⟩:=jd (p j) s (mu (p j) s ⟨(V.B i).leave V.om t k,aN V.om (p j) (dP (V.om (p j)) af aI),V.lg.dE (p j) (V.om (p j))⟩) ⟨(V.B i).leave V.om t k,aN V.om (p j) (dP (V.om (p j)) af aI),V.lg.dE (p j) (V.om (p j))⟩
    have kk:au (fun x=>x=bv\/V.lm.F x\/x=V.bk i\/x=p j\/dC (V.B i) s x\/dC (V.B i) t x) w w4:=by
     refine (k3.mono (fun x hx=>?_)).from (k4.mono (fun x hx=>?_))
     ·rcases hx with hx|hx|hx|hx|hx
      ·exact .inl hx
      ·exact .inr (.inl hx)
      ·exact .inr (.inr (.inl hx))
      ·exact .inr (.inr (.inr (.inl hx)))
      ·exact .inr (.inr (.inr (.inr (.inr hx))))
     ·rcases hx with hx|hx|hx|hx|hx|hx
      ·exact .inl (.inl hx)
      ·exact (hf3 x hx).imp_left (fun h=>.inr (.inl h))
      ·exact .inl (.inr (.inr (.inl hx)))
      ·exact .inl (.inr (.inr (.inr (.inl hx))))
      ·exact .inl (.inr (.inr (.inr (.inr (.inl (Rl s hs x hx))))))
      ·exact .inl (.inr (.inr (.inr (.inr (.inr (Rl t ht x hx))))))
    have dH:∀x,oz (aN V.om (p j) (dP (V.om (p j)) af aI) x) ((mF (p j) s ⟨(V.B i).leave V.om t k,aN V.om (p j) (dP (V.om (p j)) af aI),V.lg.dE (p j) (V.om (p j))⟩).om x):=run.dH
    have kQ:=run.kQ
    have hN':=Next.with (Q:=fun V'=>∃S' p',di p' V' S' (N+1)/\V'.lg.tp=lY V.lg.tp S'.told/\S'.told.length<=201/\uB V'/\BC bv bm bo V V' (vH S.t S'.told) w.heap.size w4/\BF Sv IE V V' (vH S.t S'.told)) (Next.of R hi _ hm hl (fun x hx=>(hf x hx).elim (fun h=>hf3 x h) (fun h=>.inr (Nat.le_trans sz3 h))) kk (fun x hx=>?_) (fun j' hj' hne t' ht' l hl=>?_) (fun x=>?_) ?_ (fun t' ht' x hx=>?_) rfl) (fun R'=>⟨yA j c',p,eu,htp,htold,hz.oG h.gw (qI (Nat.le_add_right N 1)) (by unfold mN;omega) hi hs hts hk hkb rfl rfl rfl rfl (EJ (M':=mN (N+1)) (h.gw.q _ ug) (by unfold mN;push_cast;omega) (by unfold mN;omega) KR.1 KR.2).1 ivz hBs,?_⟩)
    ·exact (hN'.bG hr4 (Nat.le_refl _) k5).mono (fun V2 ⟨S',p',a1,a2,a4,a5,a6,a7⟩=>⟨S',p',a1,a2,a4,a5,a6.bG hr4 k5,a7⟩)
    ·rcases hx with hx|hx|hx|hx|hx|hx
     ·exact .inl hx
     ·exact .inr (.inl hx)
     ·exact .inr (.inr (.inl hx))
     ·exact .inr (.inr (.inr (.inr ⟨by rw[hx];exact ug,by rw[hx];exact hap⟩)))
     ·exact .inr (.inr (.inr (.inl ⟨s,hs,hx⟩)))
     ·exact .inr (.inr (.inr (.inl ⟨t,ht,hx⟩)))
    ·have hne2:(V.B j').h t' l≠p j:=fun e=>hap j' hj' hne t' ht' (by rw[<-e];exact .inr ⟨l,hl,rfl⟩)
     rw[qh _ _ hne2,kQ _ hne2 (fun hmm=>?_)]
     ·exact ah _ _ hne2
     ·obtain⟨k2,hk2,e2⟩:=hmm
      have hsd:dC (V.B i) s ((V.B j').h t' l):=Rl s hs _ (.inr ⟨k2,hk2,e2⟩)
      exact R.lZ i j' hi hj' (fun e=>hne e.symm) s t' hs ht' _ hsd (.inr ⟨l,hl,rfl⟩)
    ·rw[wY]
     rw[(dH x).1]
     by_cases e:x=p j
     ·rw[e,aj];rfl
     ·rw[ah _ _ e]
    ·rw[mV]
     exact f4
    ·rcases zo hx with hx|hx|hx
     ·left
      by_cases es:t'=s
      ·subst es
       refine⟨t',ht',Rl t' ht' x ?_⟩
       exact (xw _ _ iv).2.2.1 x hx
      ·refine⟨t',ht',Rl t' ht' x ?_⟩
       unfold dC mF at hx
       rw[f2,(f1 t' es).1,(f1 t' es).2]at hx
       exact hx
     ·exact .inr (.inl ⟨by rw[hx];exact ug,by rw[hx];exact hap⟩)
     ·rcases hg with hg|hg
      ·exact .inl ⟨t,ht,.inl (by rw[hx];exact hg)⟩
      ·right;right;omega
    ·have ZZ:(mF (p j) s ⟨(V.B i).leave V.om t k,aN V.om (p j) (dP (V.om (p j)) af aI),V.lg.dE (p j) (V.om (p j))⟩).lg.tr.length<=_:=eu.uV
     have hpb:=h.CZ i hi
     obtain⟨did,tn⟩:=O9 (M:=mN N) R h.gw hov (by omega) hi hs ht (by omega) hk hkb (by omega) iv (by omega) (fun u hu k hk=>rY h.gw hi hu hk) hpb.1 (by omega) R' cu hsg _ rfl
     rw[tn.vH htp];exact⟨did,BF.plain rfl rfl (fun x _=>xI (by rw[mV];exact f4) x) (TT.O7 (st:=⟨(V.B i).leave V.om t k,aN V.om (p j) (dP (V.om (p j)) af aI),V.lg.dE (p j) (V.om (p j))⟩) kY.refl) (fun z=>Dt (st:=⟨(V.B i).leave V.om t k,aN V.om (p j) (dP (V.om (p j)) af aI),V.lg.dE (p j) (V.om (p j))⟩) z) (Nat.le_succ _)⟩
  ·exact absurd trivial hnum
attribute [local go_sem ↓] Go.wp_at_zero Go.wp_at_succ
end Go.Proofs.YtigaphnafnpfnaaGreatDoor
