import Derived.Test.YtigaphnafnpfnaaGreatDoorQND2
import Derived.Test.YtigaphnafnpfnaaGreatDoorQNU6
set_option linter.unusedVariables false
set_option linter.unusedSimpArgs false
namespace Go.Proofs.YtigaphnafnpfnaaGreatDoor
open Go.RowKit Go.Maps
section
variable {p : Nat -> Nat} {V : aS} {S : RS} {N : Nat}
theorem dA.open(h:dA p V S N){x:Nat}(hx:VL V x)(h0:(V.om x).aO≠0):∃i s k:Nat,i<V.nb/\s<2/\k<(V.B i).n s/\(V.B i).h s k=x/\(V.om x).sym=(V.B i).sym/\(V.om x).side=(s:Int):=by
 obtain⟨i,hi,e⟩:=h.gw.sym x hx;obtain⟨s,hs,e2⟩:∃s:Nat,s<2/\(V.om x).side=(s:Int):=by
  rcases h.gw.side x hx with e | e
  ·exact⟨0,by omega,e⟩
  ·exact⟨1,by omega,e⟩
 have hp:0<(V.om x).aO:=by have:=(h.gw.q x hx).o0;omega
 obtain⟨k,hk,e3⟩:=((h.gw.gb i hi).mem s hs x).2 ⟨hx,e,e2,hp⟩;exact⟨i,s,k,hi,hs,hk,e3.symm,e,e2⟩
theorem dA.apart(h:dA p V S N){w:World}{bv bm bo:Nat}(R:dS w bv bm bo V){i x:Nat}(hx:VL V x)(hs:(V.om x).sym=(V.B i).sym)(hi:i<V.nb):pz V i x:=by
 intro j hj hne t ht hsd;rcases hsd with e | ⟨l,hl,e⟩
 ·obtain⟨id,hid⟩:=hx;obtain⟨_,ix,ho⟩:=R.bz id x hid;exact ((R.aY j hj).side t ht).ne ho (by decide) e
 ·have:=((h.gw.gb j hj).mem t ht _).1 ⟨l,hl,rfl⟩;rw[<-e,hs]at this;exact hne (h.gw.lW i j hi hj this.2.1).symm
theorem dA.xU(h:dA p V S N)(id:Int):(V.aW id=none/\xU S.l id=6)\/∃j,iU S.l id=some j/\j<S.l.length/\V.aW id=some (p j)/\(((V.om (p j)).aO=0/\xU S.l id=10)\/((V.om (p j)).aO≠0/\(ax S.l j).aO≠0/\xU S.l id=0)):=by
 have hf:=h.found id;unfold Go.Proofs.YtigaphnafnpfnaaGreatDoor.xU;cases hx:iU S.l id with
 | none=>left;rw[hx]at hf;exact⟨hf,rfl⟩
 | some j =>
   right;rw[hx]at hf;have hj:=(xW hx).1;have e:=(fK (h.same j hj)).2.2.2.2.2.2.2.2.1;refine⟨j,rfl,hj,hf,?_⟩;by_cases h0:(ax S.l j).aO=0
   ·left;rw[e];simp[h0]
   ·right;rw[e];simp[h0]
end
theorem vG.turn{V:aS}(h:vG V){i:Nat}{B':Bk}{dK:Nat->Ord}{G':Lg}{bM:Lm}(hs:B'.sym=(V.B i).sym)(hm:∀x,(dK x).sym=(V.om x).sym/\(dK x).side=(V.om x).side/\(dK x).id=(V.om x).id/\(dK x).filled=(V.om x).filled)(h1:G'.tr=V.lg.tr)(h2:G'.tp=V.lg.tp)(h3:G'.day=V.lg.day):vG (V.lu i B' dK G' bM):=by
 refine h.of rfl (fun j=>?_) rfl hm h1 h2 h3;show (aQ V.B i B' j).sym=_;by_cases e:j=i
 ·rw[e,ai,hs]
 ·rw[ah _ _ e]
theorem Le{om:Nat->Ord}{b:Nat}{o':Ord}(h:o'.sym=(om b).sym/\o'.side=(om b).side/\o'.id=(om b).id/\o'.filled=(om b).filled)(x:Nat):(aQ om b o' x).sym=(om x).sym/\(aQ om b o' x).side=(om x).side/\(aQ om b o' x).id=(om x).id/\(aQ om b o' x).filled=(om x).filled:=by
 by_cases e:x=b
 ·rw[e,ai];exact h
 ·rw[ah _ _ e];exact⟨rfl,rfl,rfl,rfl⟩
theorem dA.aaA{p:Nat->Nat}{V:aS}{S:RS}{N:Nat}(h:dA p V S N)(o:iT):sD S o=jG o (V.aW o.id).isSome (jI S.sy o.sym) (decide (200<=V.no)) (gZ S.l o).isSome (decide (um S.l o S.l.length<o.aK)):=by
 unfold sD;rw[h.found o.id,h.no];congr 1;cases iU S.l o.id <;> rfl
theorem JW{p:Nat->Nat}{V:aS}{S:RS}{N:Nat}(bv bm bo:Nat)(h:dA p V S N)(hN:N<2900000)(o:iT)(hlen:o.sym.size<=maxLen)(hid:(Lit.int .i64 o.id).wf=true)(W:World)(R:dS W bv bm bo V) :
 CT 111 #[PP bv,o.val] W fun e w'=>e=.returned (II (sD S o))/\aj aJ W w':=by
 have hM:mN N<=1000000000000000:=by unfold mN;omega
 rw[h.aaA o];have hth:(jI S.sy o.sym=true/\∃i,i<V.nb/\(V.B i).sym=o.sym)\/(jI S.sy o.sym=false/\∀i,i<V.nb->(V.B i).sym≠o.sym):=by
  cases hx:jI S.sy o.sym
  ·right;refine⟨rfl,fun i hi e=>?_⟩;rw[(h.gI _).2 ⟨i,hi,e⟩]at hx;exact absurd hx (by decide)
  ·left;exact⟨rfl,(h.gI _).1 hx⟩
 have early:jI S.sy o.sym=false\/200<=V.no\/jG o (V.aW o.id).isSome (jI S.sy o.sym) (decide (200<=V.no)) (gZ S.l o).isSome (decide (um S.l o S.l.length<o.aK))≠(if o.kind=4/\(gZ S.l o).isSome=true then 8 else if o.kind=3/\decide (um S.l o S.l.length<o.aK)=true then 9 else 0) ->
  CT 111 #[PP bv,o.val] W fun e w'=>e=.returned (II (jG o (V.aW o.id).isSome (jI S.sy o.sym) (decide (200<=V.no)) (gZ S.l o).isSome (decide (um S.l o S.l.length<o.aK))))/\aj aJ W w' :=
  fun hE=>Ef bv bm bo V o W R hlen hid _ _ _ hth hE
 have nE:∀(k:Int),(k=1\/k=2\/k=4\/k=5)->k≠(if o.kind=4/\(gZ S.l o).isSome=true then 8 else if o.kind=3/\decide (um S.l o S.l.length<o.aK)=true then 9 else 0):=by
  intro k hk;split
  ·omega
  ·split <;> omega
 rcases pI o (V.aW o.id).isSome (jI S.sy o.sym) (decide (200<=V.no)) (gZ S.l o).isSome (decide (um S.l o S.l.length<o.aK)) with⟨_,e⟩ | ⟨_,_,e⟩ | ⟨g1,g2,⟨_,e⟩ | ⟨_,_,e⟩ | ⟨g3,g4,⟨_,e⟩ | ⟨g5,⟨_,e⟩ | ⟨_,_,e⟩ | ⟨g6,g7,⟨g8,e⟩ | ⟨g8,g9,e⟩ | ⟨g8,g9,e⟩⟩⟩⟩⟩
 ·exact early (.inr (.inr (by rw[e];exact nE 1 (by omega))))
 ·exact early (.inr (.inr (by rw[e];exact nE 2 (by omega))))
 ·exact early (.inr (.inr (by rw[e];exact nE 4 (by omega))))
 ·exact early (.inr (.inr (by rw[e];exact nE 4 (by omega))))
 ·exact early (.inr (.inr (by rw[e];exact nE 5 (by omega))))
 ·exact early (.inr (.inr (by rw[e];exact nE 4 (by omega))))
 ·exact early (.inr (.inr (by rw[e];exact nE 4 (by omega))))
 ·exact early (.inl g8)
 ·exact early (.inr (.inl (by simpa using g9)))
 ·rw[e];have h2:V.aW o.id=none:=by simpa using g2
  have h8:V.no<200:=by simp at g9;omega
  obtain⟨i,hi,dR⟩:=(h.gI _).1 g8;have hsd:o.side=0\/o.side=1:=by
   unfold ni at g4;simp at g4;exact g4
  obtain⟨t,ht,hst⟩:∃t:Nat,t<2/\o.side=(t:Int):=by
   rcases hsd with e | e
   ·exact⟨0,by omega,e⟩
   ·exact⟨1,by omega,e⟩
  obtain⟨s,hs,hts⟩:∃s,s<2/\t=1-s:=⟨1-t,by omega,by omega⟩;have hside:o.side=1-(s:Int):=by omega
  by_cases hk4:o.kind=4
  ·have:=GV bv bm bo i s V o W R hi dR hlen g1 h2 g3 g4 g5 g6 g7 h8 hk4 hs hside;rw[h.iE hi hs hts dR.symm hst]at this;rw[show (if o.kind=4/\(gZ S.l o).isSome=true then (8:Int) else if o.kind=3/\decide (um S.l o S.l.length<o.aK)=true then 9 else 0)=if (gZ S.l o).isSome=true then 8 else 0 by
    by_cases hb:(gZ S.l o).isSome=true
    ·rw[if_pos ⟨hk4,hb⟩,if_pos hb]
    ·rw[if_neg (fun x=>hb x.2),if_neg (fun x=>by omega),if_neg hb]]
   exact this
  ·by_cases hk3:o.kind=3
   ·have:=Eg bv bm bo i s V o W R hi dR hlen g1 h2 g3 g4 g5 g6 g7 h8 hk3 hs hside (fun k hk=>by
     have hm:=((h.gw.gb i hi).mem s hs _).1 ⟨k,hk,rfl⟩;have q:=h.gw.q _ hm.1;have:=q.o0;have:=q.f0;have:=q.c0;have:=q.e0;have:=q.sum;have:=q.hi;omega)
    rw[h.whole hi hs hts dR.symm hst]at this;rw[show (if o.kind=4/\(gZ S.l o).isSome=true then (8:Int) else if o.kind=3/\decide (um S.l o S.l.length<o.aK)=true then 9 else 0)=if um S.l o S.l.length<o.aK then 9 else 0 by
     rw[if_neg (fun x=>hk4 x.1)];by_cases hb:um S.l o S.l.length<o.aK
     ·rw[if_pos ⟨hk3,by simpa using hb⟩,if_pos hb]
     ·rw[if_neg (fun x=>hb (by simpa using x.2)),if_neg hb]]
    exact this
   ·rw[if_neg (fun x=>hk4 x.1),if_neg (fun x=>hk3 x.1)];exact NL bv bm bo i V o W R hi dR hlen g1 h2 g3 g4 g5 g6 g7 h8 hk3 hk4
open Go.RowKit Go.Maps Go.Shelf
inductive pV {α:Type} (P:List (mY × α)->aS->Prop):List (mY × α)->aS->Prop
 | nil {V:aS} (h:P [] V):pV P [] V
 | jD {H:List (mY × α)} {n:mY} {a:α} {V0 V1 V:aS} {l:List Nat} (h:pV P H V0) (u:jO n.bk (KK l) n.ds n.Ts V0 V1) (hl:dQ V1 V) (hll:l.length<1000) (hd:0<n.ds.length/\n.ds.length<=100000) (hp:P (H++[(n,a)]) V):pV P (H++[(n,a)]) V
section
variable {α : Type} {P P' : List (mY × α) -> aS -> Prop} {H : List (mY × α)} {V V' : aS}
theorem pV.abp(h:pV P H V):P H V:=by
 cases h with
 | nil h=>exact h
 | jD h u hl hll hd hp=>exact hp
theorem pV.Eb(hP:∀H V V',P H V->dQ V V'->P H V')(h:pV P H V)(l:dQ V V'):pV P H V':=by
 cases h with
 | nil h=>exact pV.nil (hP _ _ _ h l)
 | jD h u hl hll hd hp=>exact pV.jD h u (hl.trans l) hll hd (hP _ _ _ hp l)
theorem pV.mono(hP:∀H V,P H V->P' H V)(h:pV P H V):pV P' H V:=by
 induction h with
 | nil h=>exact pV.nil (hP _ _ h)
 | jD h u hl hll hd hp ih=>exact pV.jD ih u hl hll hd (hP _ _ hp)
theorem pV.last{n:mY}{a:α}(h:pV P (H++[(n,a)]) V):∃V0 V1 l,pV P H V0/\jO n.bk (KK l) n.ds n.Ts V0 V1/\dQ V1 V/\l.length<1000/\0<n.ds.length/\n.ds.length<=100000:=by
 generalize e:H++[(n,a)]=H2 at h;cases h with
 | nil h=>simp at e
 | jD h u hl hll hd hp =>
   obtain⟨e1,e2⟩:=List.append_inj' e rfl;simp only[List.cons.injEq,Prod.mk.injEq,and_true]at e2;obtain⟨rfl,rfl⟩:=e2;subst e1;exact⟨_,_,_,h,u,hl,hll,hd.1,hd.2⟩
end
def Bx{α:Type}(H:List (mY × α))(b:Nat):Prop:=∃h∈H,∃c∈h.1.cl,yA c b
structure AB{α:Type}(bv bm bo:Nat)(V:aS)(H:List (mY × α))(w:World):Prop where
 fns:∀h∈H,Ri bv bm bo V h.1 w
 acs:V.lm.ac.map Prod.snd=H.map (fun h=>h.1.cl)
 nt:∀h,H.getLast?=some h->V.lg.nt=h.1.ds
section
variable {α : Type} {bv bm bo : Nat} {V V' : aS} {H : List (mY × α)} {w w' : World}
theorem AB.lt(h:AB bv bm bo V H w){b:Nat}(hb:Bx H b):b<w.heap.size:=by
 obtain⟨x,hx,c,hc,hcb⟩:=hb;exact (h.fns x hx).lt hc hcb
theorem AB.aC(h:AB bv bm bo V H w){K:Nat->Prop}(k:aj K w w')(hK:∀b,Bx H b->¬K b):AB bv bm bo V H w' :=
 ⟨fun x hx=>(h.fns x hx).aB k (fun c hc b hb=>hK b ⟨x,hx,c,hc,hb⟩),h.acs,h.nt⟩
theorem AB.did{B:List (Int × Tr)}(h:AB bv bm bo V H w)(k:aj (dO bv bm bo V) w w')(hF:∀x,dO bv bm bo V' x->dO bv bm bo V x\/w.heap.size<=x){n:mY}{a:α}(h1:V'.lm.ac.map Prod.snd=V.lm.ac.map Prod.snd++[n.cl])(h2:V'.lg.nt=n.ds)(f:Ri bv bm bo V' n w'):AB bv bm bo V' (H++[(n,a)]) w':=by
 refine⟨fun x hx=>?_,by rw[h1,h.acs,List.map_append];rfl,fun x hx=>?_⟩
 ·rcases List.mem_append.1 hx with hx | hx
  ·exact (h.fns x hx).aC k hF
  ·rw[List.mem_singleton.1 hx];exact f
 ·rw[List.getLast?_append]at hx;simp at hx;rw[<-hx];exact h2
end
theorem Ht(B:List (Int × Tr)):∀G:Lg,(G.nC B).tp=qx G.tp B:=by
 induction B with
 | nil=>intro G;rfl
 | cons p B ih =>
   intro G;show ((G.told p.1 p.2).nC B).tp=qx (G.tp++[_]) B;rw[ih];rfl
theorem pY.nC:∀{B:List (Int × Tr)} {R:List Rc},pY R->(∀p∈B,p.2.sym.size<=100000)->pY (qx R B)
 | [],R,h,_=>h
 | p :: B,R,h,hb=>pY.nC (B:=B) (h.jD rfl (hb p (by simp))) (fun q hq=>hb q (by simp[hq]))
theorem vG.Eb{V V':aS}(h:vG V)(l:dQ V V')(htp:pY V'.lg.tp):vG V':=by
 have e:=l.nb;have om:∀id b,V.aW id=some b->V'.om b=V.om b:=fun id b hb=>l.om b ⟨id,hb⟩
 refine⟨fun i hi=>by rw[l.sym i (by omega)];exact h.sz i (by omega),⟨fun t ht=>?_,fun id b hb=>?_,fun id b hb=>?_⟩,fun x hx=>h.sy x (by rw[<-l.tr];exact hx),htp,fun k x hx=>h.nm k x (by rw[<-l.tr];exact hx),by rw[l.day];exact h.dy⟩
 ·rw[l.tr]at ht;obtain⟨⟨b,a1,a2,a3⟩,⟨c,c1,c2,c3⟩,hq⟩:=h.fl.tw t ht;exact⟨⟨b,by rw[l.aW];exact a1,by rw[om _ _ a1];exact a2,by rw[om _ _ a1];exact a3⟩,⟨c,by rw[l.aW];exact c1,by rw[om _ _ c1];exact c2,by rw[om _ _ c1];exact c3⟩,hq⟩
 ·rw[l.aW]at hb;rw[om _ _ hb];exact h.fl.rJ id b hb
 ·rw[l.aW]at hb;rw[om _ _ hb,l.tr];exact h.fl.eq id b hb
theorem VK{R told:List Rc}{G:Lg}(h:pY G.tp)(htp:G.tp=kZ R told):∀r∈told,r.t.sym.size<=100000:=fun r hr=>by
 have hd:=uV told R;rw[<-htp]at hd;have:(r.kind,r.t)∈told.map (fun r=>(r.kind,r.t)):=List.mem_map.2 ⟨r,hr,rfl⟩;rw[<-hd]at this;obtain⟨r',hr',e⟩:=List.mem_map.1 this;simp only[Prod.mk.injEq]at e;obtain⟨i,hi,e2⟩:=List.mem_iff_getElem.1 (List.mem_of_mem_drop hr');have:=(h i r' (by rw[List.getElem?_eq_getElem hi,e2])).2;rw[<-e.2];exact this
theorem Ud{t0:List Tg}{told:List Rc}(h1:∀x∈t0,x.t.sym.size<=100000)(h2:∀r∈told,r.t.sym.size<=100000):∀q∈uh t0 told,q.2.sym.size<=100000:=fun q hq=>by
 obtain⟨r,hr,e⟩:=List.mem_filterMap.1 hq;unfold Uc at e;split at e
 ·rw[<-Option.some.inj e];exact h2 r hr
 ·split at e
  ·rw[<-Option.some.inj e];exact h2 r hr
  ·split at e
   ·obtain⟨x,hx,e2⟩:=Option.map_eq_some_iff.1 e;rw[<-e2];exact h1 x (List.mem_of_getElem? hx)
   ·simp at e
theorem dS.abU{w w':World}{bv bm bo:Nat}{V:aS}(R:dS w bv bm bo V){K:Nat->Prop}(k:aj K w w')(nf:∀y,dO bv bm bo V y->¬K y):dS w' bv bm bo V:=by
 obtain⟨gB,nB,g1,g2⟩:=R.iM;obtain⟨gO,nO,g3⟩:=R.fH;exact⟨R.aP.aC k (nf _ (.inl rfl)) (fun y hy=>nf y (vU hy)),⟨gB,nB.aC k (nf _ (.inr (.inl rfl))),g1,g2⟩,⟨gO,nO.aC k (nf _ (lN rfl)),g3⟩,R.Ia,fun j hj=>(R.aY j hj).aC k (fun y hy=>nf y (by
  rcases hy with h | ⟨z,hz,h⟩
  ·exact jZ ⟨j,hj,.inl h⟩
  ·exact jZ ⟨j,hj,.inr ⟨z,hz,h⟩⟩)),fun id y h=>⟨(R.bz id y h).1,(R.bz id y h).2.elim fun ix ho=>⟨ix,k.aF ho (nf y (qm ⟨id,h⟩))⟩⟩,R.mem,R.sS,R.nM,R.gV⟩
end Go.Proofs.YtigaphnafnpfnaaGreatDoor
