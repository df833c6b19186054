import Derived.Test.YtigaphnafnpfnaaGreatDoorQVD2
import Derived.Test.YtigaphnafnpfnaaGreatDoorQVU4
import Derived.Test.YtigaphnafnpfnaaGreatDoorQVX26
import Derived.Test.YtigaphnafnpfnaaGreatDoorQVX27
set_option linter.unusedVariables false
set_option linter.unusedSimpArgs false
namespace Go.Proofs.YtigaphnafnpfnaaGreatDoor
open Go.RowKit Go.Maps
section
variable {p : Nat -> Nat} {V : aQ} {S : RS} {N : Nat}
theorem di.open(h:di p V S N){x:Nat}(hx:VL V x)(h0:(V.om x).aK≠0):∃i s k:Nat,i<V.nb/\s<2/\k<(V.B i).n s/\(V.B i).h s k=x/\(V.om x).sym=(V.B i).sym/\(V.om x).side=(s:Int):=by
 obtain⟨i,hi,e⟩:=h.gw.sym x hx
 obtain⟨s,hs,e2⟩:∃s:Nat,s<2/\(V.om x).side=(s:Int):=by
  rcases h.gw.side x hx with e|e
  ·exact⟨0,by omega,e⟩
  ·exact⟨1,by omega,e⟩
 have hp:0<(V.om x).aK:=by have:=(h.gw.q x hx).o0;omega
 obtain⟨k,hk,e3⟩:=((h.gw.gb i hi).mem s hs x).2 ⟨hx,e,e2,hp⟩
 exact⟨i,s,k,hi,hs,hk,e3.symm,e,e2⟩
theorem di.apart(h:di p V S N){w:World}{bv bm bo:Nat}(R:dN w bv bm bo V){i x:Nat}(hx:VL V x)(hs:(V.om x).sym=(V.B i).sym)(hi:i<V.nb):nM V i x:=by
 intro j hj hne t ht hsd
 rcases hsd with e|⟨l,hl,e⟩
 ·obtain⟨id,hid⟩:=hx
  obtain⟨_,ix,ho⟩:=R.bg id x hid
  exact ((R.aW j hj).side t ht).ne ho (by decide) e
 ·have:=((h.gw.gb j hj).mem t ht _).1 ⟨l,hl,rfl⟩
  rw[<-e,hs]at this
  exact hne (h.gw.kM i j hi hj this.2.1).symm
theorem di.zZ(h:di p V S N)(id:Int):(V.aU id=none/\zZ S.l id=6)\/∃j,jX S.l id=some j/\j<S.l.length/\V.aU id=some (p j)/\(((V.om (p j)).aK=0/\zZ S.l id=10)\/((V.om (p j)).aK≠0/\(ax S.l j).aK≠0/\zZ S.l id=0)):=by
 have hf:=h.found id
 unfold Go.Proofs.YtigaphnafnpfnaaGreatDoor.zZ
 cases hx:jX S.l id with
 | none=>left;rw[hx]at hf;exact⟨hf,rfl⟩
 | some j =>
   right
   rw[hx]at hf
   have hj:=(vS hx).1
   have e:=(fE (h.same j hj)).2.2.2.2.2.2.2.2.1
   refine⟨j,rfl,hj,hf,?_⟩
   by_cases h0:(ax S.l j).aK=0
   ·left;rw[e];simp[h0]
   ·right;rw[e];simp[h0]
end
theorem uB.turn{V:aQ}(h:uB V){i:Nat}{B':Bk}{dG:Nat->Ord}{G':Lg}{bH:Lm}(hs:B'.sym=(V.B i).sym)(hm:∀x,(dG x).sym=(V.om x).sym/\(dG x).side=(V.om x).side/\(dG x).id=(V.om x).id/\(dG x).filled=(V.om x).filled)(h1:G'.tr=V.lg.tr)(h2:G'.tp=V.lg.tp)(h3:G'.day=V.lg.day):uB (V.jS i B' dG G' bH):=by
 refine h.of rfl (fun j=>?_) rfl hm h1 h2 h3
 show (aN V.B i B' j).sym=_
 by_cases e:j=i
 ·rw[e,aj,hs]
 ·rw[ah _ _ e]
theorem IB{om:Nat->Ord}{b:Nat}{o':Ord}(h:o'.sym=(om b).sym/\o'.side=(om b).side/\o'.id=(om b).id/\o'.filled=(om b).filled)(x:Nat):(aN om b o' x).sym=(om x).sym/\(aN om b o' x).side=(om x).side/\(aN om b o' x).id=(om x).id/\(aN om b o' x).filled=(om x).filled:=by
 by_cases e:x=b
 ·rw[e,aj];exact h
 ·rw[ah _ _ e];exact⟨rfl,rfl,rfl,rfl⟩
theorem di.XU{p:Nat->Nat}{V:aQ}{S:RS}{N:Nat}(h:di p V S N)(o:iL):rJ S o=jh o (V.aU o.id).isSome (kN S.sy o.sym) (decide (200<=V.no)) (gz S.l o).isSome (decide (rG S.l o S.l.length<o.aI)):=by
 unfold rJ
 rw[h.found o.id,h.no]
 congr 1
 cases jX S.l o.id <;> rfl
theorem GZ{p:Nat->Nat}{V:aQ}{S:RS}{N:Nat}(bv bm bo:Nat)(h:di p V S N)(hN:N<2900000)(o:iL)(hlen:o.sym.size<=maxLen)(hid:(Lit.int .i64 o.id).wf=true)(W:World)(R:dN W bv bm bo V) :
 Calls Tryz.prog 111 #[.pointer (some ⟨bv,0,none⟩),o.val] W fun e w'=>e=.returned (.int .i64 (rJ S o))/\au aP W w':=by
 have hM:mN N<=1000000000000000:=by unfold mN;omega
 rw[h.XU o]
 have hth:(kN S.sy o.sym=true/\∃i,i<V.nb/\(V.B i).sym=o.sym)\/(kN S.sy o.sym=false/\∀i,i<V.nb->(V.B i).sym≠o.sym):=by
  cases hx:kN S.sy o.sym
  ·right;refine⟨rfl,fun i hi e=>?_⟩
   rw[(h.fV _).2 ⟨i,hi,e⟩]at hx;exact absurd hx (by decide)
  ·left;exact⟨rfl,(h.fV _).1 hx⟩
 have early:kN S.sy o.sym=false\/200<=V.no\/jh o (V.aU o.id).isSome (kN S.sy o.sym) (decide (200<=V.no)) (gz S.l o).isSome (decide (rG S.l o S.l.length<o.aI))≠(if o.kind=4/\(gz S.l o).isSome=true then 8 else if o.kind=3/\decide (rG S.l o S.l.length<o.aI)=true then 9 else 0) ->
  Calls Tryz.prog 111 #[.pointer (some ⟨bv,0,none⟩),o.val] W fun e w'=>e=.returned (.int .i64 (jh o (V.aU o.id).isSome (kN S.sy o.sym) (decide (200<=V.no)) (gz S.l o).isSome (decide (rG S.l o S.l.length<o.aI))))/\au aP W w' :=
  fun hE=>BU bv bm bo V o W R hlen hid _ _ _ hth hE
 have nE:∀(k:Int),(k=1\/k=2\/k=4\/k=5)->k≠(if o.kind=4/\(gz S.l o).isSome=true then 8 else if o.kind=3/\decide (rG S.l o S.l.length<o.aI)=true then 9 else 0):=by
  intro k hk
  split
  ·omega
  ·split <;> omega
 rcases nU o (V.aU o.id).isSome (kN S.sy o.sym) (decide (200<=V.no)) (gz S.l o).isSome (decide (rG S.l o S.l.length<o.aI)) with⟨_,e⟩|⟨_,_,e⟩|⟨g1,g2,⟨_,e⟩|⟨_,_,e⟩|⟨g3,g4,⟨_,e⟩|⟨g5,⟨_,e⟩|⟨_,_,e⟩|⟨g6,g7,⟨g8,e⟩|⟨g8,g9,e⟩|⟨g8,g9,e⟩⟩⟩⟩⟩
 ·exact early (.inr (.inr (by rw[e];exact nE 1 (by omega))))
 ·exact early (.inr (.inr (by rw[e];exact nE 2 (by omega))))
 ·exact early (.inr (.inr (by rw[e];exact nE 4 (by omega))))
 ·exact early (.inr (.inr (by rw[e];exact nE 4 (by omega))))
 ·exact early (.inr (.inr (by rw[e];exact nE 5 (by omega))))
 ·exact early (.inr (.inr (by rw[e];exact nE 4 (by omega))))
 ·exact early (.inr (.inr (by rw[e];exact nE 4 (by omega))))
 ·exact early (.inl g8)
 ·exact early (.inr (.inl (by simpa using g9)))
 ·rw[e]
  have h2:V.aU o.id=none:=by simpa using g2
  have h8:V.no<200:=by simp at g9;omega
  obtain⟨i,hi,dM⟩:=(h.fV _).1 g8
  have hsd:o.side=0\/o.side=1:=by
   unfold lQ at g4
   simp at g4
   exact g4
  obtain⟨t,ht,hst⟩:∃t:Nat,t<2/\o.side=(t:Int):=by
   rcases hsd with e|e
   ·exact⟨0,by omega,e⟩
   ·exact⟨1,by omega,e⟩
  obtain⟨s,hs,hts⟩:∃s,s<2/\t=1-s:=⟨1-t,by omega,by omega⟩
  have hside:o.side=1-(s:Int):=by omega
  by_cases hk4:o.kind=4
  ·have:=EH bv bm bo i s V o W R hi dM hlen g1 h2 g3 g4 g5 g6 g7 h8 hk4 hs hside
   rw[h.gK hi hs hts dM.symm hst]at this
   rw[show (if o.kind=4/\(gz S.l o).isSome=true then (8:Int) else if o.kind=3/\decide (rG S.l o S.l.length<o.aI)=true then 9 else 0)=if (gz S.l o).isSome=true then 8 else 0 by
    by_cases hb:(gz S.l o).isSome=true
    ·rw[if_pos ⟨hk4,hb⟩,if_pos hb]
    ·rw[if_neg (fun x=>hb x.2),if_neg (fun x=>by omega),if_neg hb]]
   exact this
  ·by_cases hk3:o.kind=3
   ·have:=BV bv bm bo i s V o W R hi dM hlen g1 h2 g3 g4 g5 g6 g7 h8 hk3 hs hside (fun k hk=>by
     have hm:=((h.gw.gb i hi).mem s hs _).1 ⟨k,hk,rfl⟩
     have q:=h.gw.q _ hm.1
     have:=q.o0;have:=q.f0;have:=q.c0;have:=q.e0;have:=q.sum;have:=q.hi
     omega)
    rw[h.whole hi hs hts dM.symm hst]at this
    rw[show (if o.kind=4/\(gz S.l o).isSome=true then (8:Int) else if o.kind=3/\decide (rG S.l o S.l.length<o.aI)=true then 9 else 0)=if rG S.l o S.l.length<o.aI then 9 else 0 by
     rw[if_neg (fun x=>hk4 x.1)]
     by_cases hb:rG S.l o S.l.length<o.aI
     ·rw[if_pos ⟨hk3,by simpa using hb⟩,if_pos hb]
     ·rw[if_neg (fun x=>hb (by simpa using x.2)),if_neg hb]]
    exact this
   ·rw[if_neg (fun x=>hk4 x.1),if_neg (fun x=>hk3 x.1)]
    exact JX bv bm bo i V o W R hi dM hlen g1 h2 g3 g4 g5 g6 g7 h8 hk3 hk4
open Go.RowKit Go.Maps Go.Shelf
inductive ou {α:Type} (P:List (lK × α)->aQ->Prop):List (lK × α)->aQ->Prop
 | nil {V:aQ} (h:P [] V):ou P [] V
 | iT {H:List (lK × α)} {n:lK} {a:α} {V0 V1 V:aQ} {l:List Nat} (h:ou P H V0) (u:jm n.bk (KK l) n.ds n.Ts V0 V1) (hl:dK V1 V) (hll:l.length<1000) (hd:0<n.ds.length/\n.ds.length<=100000) (hp:P (H++[(n,a)]) V):ou P (H++[(n,a)]) V
section
variable {α : Type} {P P' : List (lK × α) -> aQ -> Prop} {H : List (lK × α)} {V V' : aQ}
theorem ou.Zz(h:ou P H V):P H V:=by
 cases h with
 | nil h=>exact h
 | iT h u hl hll hd hp=>exact hp
theorem ou.JC(hP:∀H V V',P H V->dK V V'->P H V')(h:ou P H V)(l:dK V V'):ou P H V':=by
 cases h with
 | nil h=>exact ou.nil (hP _ _ _ h l)
 | iT h u hl hll hd hp=>exact ou.iT h u (hl.trans l) hll hd (hP _ _ _ hp l)
theorem ou.mono(hP:∀H V,P H V->P' H V)(h:ou P H V):ou P' H V:=by
 induction h with
 | nil h=>exact ou.nil (hP _ _ h)
 | iT h u hl hll hd hp ih=>exact ou.iT ih u hl hll hd (hP _ _ hp)
theorem ou.last{n:lK}{a:α}(h:ou P (H++[(n,a)]) V):∃V0 V1 l,ou P H V0/\jm n.bk (KK l) n.ds n.Ts V0 V1/\dK V1 V/\l.length<1000/\0<n.ds.length/\n.ds.length<=100000:=by
 generalize e:H++[(n,a)]=H2 at h
 cases h with
 | nil h=>simp at e
 | iT h u hl hll hd hp =>
   obtain⟨e1,e2⟩:=List.append_inj' e rfl
   simp only[List.cons.injEq,Prod.mk.injEq,and_true]at e2
   obtain⟨rfl,rfl⟩:=e2
   subst e1
   exact⟨_,_,_,h,u,hl,hll,hd.1,hd.2⟩
end
def Bx{α:Type}(H:List (lK × α))(b:Nat):Prop:=∃h∈H,∃c∈h.1.cl,wI c b
structure yU{α:Type}(bv bm bo:Nat)(V:aQ)(H:List (lK × α))(w:World):Prop where
 fns:∀h∈H,Oe bv bm bo V h.1 w
 Y1:V.lm.ac.map Prod.snd=H.map (fun h=>h.1.cl)
 nt:∀h,H.getLast?=some h->V.lg.nt=h.1.ds
section
variable {α : Type} {bv bm bo : Nat} {V V' : aQ} {H : List (lK × α)} {w w' : World}
theorem yU.lt(h:yU bv bm bo V H w){b:Nat}(hb:Bx H b):b<w.heap.size:=by
 obtain⟨x,hx,c,hc,hcb⟩:=hb
 exact (h.fns x hx).lt hc hcb
theorem yU.aC(h:yU bv bm bo V H w){K:Nat->Prop}(k:au K w w')(hK:∀b,Bx H b->¬K b):yU bv bm bo V H w' :=
 ⟨fun x hx=>(h.fns x hx).aH k (fun c hc b hb=>hK b ⟨x,hx,c,hc,hb⟩),h.Y1,h.nt⟩
theorem yU.did{B:List (Int × Tr)}(h:yU bv bm bo V H w)(k:au (dI bv bm bo V) w w')(hF:∀x,dI bv bm bo V' x->dI bv bm bo V x\/w.heap.size<=x){n:lK}{a:α}(h1:V'.lm.ac.map Prod.snd=V.lm.ac.map Prod.snd++[n.cl])(h2:V'.lg.nt=n.ds)(f:Oe bv bm bo V' n w'):yU bv bm bo V' (H++[(n,a)]) w':=by
 refine⟨fun x hx=>?_,by rw[h1,h.Y1,List.map_append];rfl,fun x hx=>?_⟩
 ·rcases List.mem_append.1 hx with hx|hx
  ·exact (h.fns x hx).aC k hF
  ·rw[List.mem_singleton.1 hx];exact f
 ·rw[List.getLast?_append]at hx
  simp at hx
  rw[<-hx];exact h2
end
theorem ES(B:List (Int × Tr)):∀G:Lg,(G.lT B).tp=oU G.tp B:=by
 induction B with
 | nil=>intro G;rfl
 | cons p B ih =>
   intro G
   show ((G.told p.1 p.2).lT B).tp=oU (G.tp++[_]) B
   rw[ih];rfl
theorem oD.lT:∀{B:List (Int × Tr)} {R:List Rc},oD R->(∀p∈B,p.2.sym.size<=100000)->oD (oU R B)
 | [],R,h,_=>h
 | p :: B,R,h,hb=>oD.lT (B:=B) (h.iT rfl (hb p (by simp))) (fun q hq=>hb q (by simp[hq]))
theorem uB.JC{V V':aQ}(h:uB V)(l:dK V V')(htp:oD V'.lg.tp):uB V':=by
 have e:=l.nb
 have om:∀id b,V.aU id=some b->V'.om b=V.om b:=fun id b hb=>l.om b ⟨id,hb⟩
 refine⟨fun i hi=>by rw[l.sym i (by omega)];exact h.sz i (by omega),⟨fun t ht=>?_,fun id b hb=>?_,fun id b hb=>?_⟩,fun x hx=>h.sy x (by rw[<-l.tr];exact hx),htp,fun k x hx=>h.nm k x (by rw[<-l.tr];exact hx),by rw[l.day];exact h.dy⟩
 ·rw[l.tr]at ht
  obtain⟨⟨b,a1,a2,a3⟩,⟨c,c1,c2,c3⟩,hq⟩:=h.fl.tw t ht
  exact⟨⟨b,by rw[l.aU];exact a1,by rw[om _ _ a1];exact a2,by rw[om _ _ a1];exact a3⟩,⟨c,by rw[l.aU];exact c1,by rw[om _ _ c1];exact c2,by rw[om _ _ c1];exact c3⟩,hq⟩
 ·rw[l.aU]at hb;rw[om _ _ hb];exact h.fl.sK id b hb
 ·rw[l.aU]at hb;rw[om _ _ hb,l.tr];exact h.fl.eq id b hb
theorem RF{R told:List Rc}{G:Lg}(h:oD G.tp)(htp:G.tp=lY R told):∀r∈told,r.t.sym.size<=100000:=fun r hr=>by
 have hd:=sU told R
 rw[<-htp]at hd
 have:(r.kind,r.t)∈told.map (fun r=>(r.kind,r.t)):=List.mem_map.2 ⟨r,hr,rfl⟩
 rw[<-hd]at this
 obtain⟨r',hr',e⟩:=List.mem_map.1 this
 simp only[Prod.mk.injEq]at e
 obtain⟨i,hi,e2⟩:=List.mem_iff_getElem.1 (List.mem_of_mem_drop hr')
 have:=(h i r' (by rw[List.getElem?_eq_getElem hi,e2])).2
 rw[<-e.2];exact this
theorem Qb{t0:List Tg}{told:List Rc}(h1:∀x∈t0,x.t.sym.size<=100000)(h2:∀r∈told,r.t.sym.size<=100000):∀q∈vH t0 told,q.2.sym.size<=100000:=fun q hq=>by
 obtain⟨r,hr,e⟩:=List.mem_filterMap.1 hq
 unfold Qa at e
 split at e
 ·rw[<-Option.some.inj e];exact h2 r hr
 ·split at e
  ·rw[<-Option.some.inj e];exact h2 r hr
  ·split at e
   ·obtain⟨x,hx,e2⟩:=Option.map_eq_some_iff.1 e
    rw[<-e2];exact h1 x (List.mem_of_getElem? hx)
   ·simp at e
theorem dN.aad{w w':World}{bv bm bo:Nat}{V:aQ}(R:dN w bv bm bo V){K:Nat->Prop}(k:au K w w')(nf:∀y,dI bv bm bo V y->¬K y):dN w' bv bm bo V:=by
 obtain⟨gB,nB,g1,g2⟩:=R.ik
 obtain⟨gO,nO,g3⟩:=R.fD
 exact⟨R.aO.aC k (nf _ (.inl rfl)) (fun y hy=>nf y (.inr (.inr (.inr (.inr (.inr hy)))))),⟨gB,nB.aC k (nf _ (.inr (.inl rfl))),g1,g2⟩,⟨gO,nO.aC k (nf _ (.inr (.inr (.inl rfl)))),g3⟩,R.E5,fun j hj=>(R.aW j hj).aC k (fun y hy=>nf y (by
  rcases hy with h|⟨z,hz,h⟩
  ·exact .inr (.inr (.inr (.inl ⟨j,hj,.inl h⟩)))
  ·exact .inr (.inr (.inr (.inl ⟨j,hj,.inr ⟨z,hz,h⟩⟩))))),fun id y h=>⟨(R.bg id y h).1,(R.bg id y h).2.elim fun ix ho=>⟨ix,k.aB ho (nf y (.inr (.inr (.inr (.inr (.inl ⟨id,h⟩))))))⟩⟩,R.mem,R.qL,R.lZ,R.gp⟩
def yP(S:RS)(sym:ByteArray)(side:Int)(ls:List jM)(E:Int):Prop :=
 (E=6/\ls=[]/\kN S.sy sym=false)\/(E=4/\ls=[]/\kN S.sy sym=true/\lQ side=false)\/(E=0/\kN S.sy sym=true/\(side=0\/side=1)/\mY S.l sym side ls.length [] ls/\ls.length<=200)
theorem di.aW{p:Nat->Nat}{V:aQ}{S:RS}{N:Nat}(h:di p V S N)(hN:N<2900000){i s:Nat}(hi:i<V.nb)(hs:s<2){ys:List Nat}(hy:IY V.om ((V.B i).n s) ((V.B i).h s) ys) :
 mY S.l (V.B i).sym (s:Int) (iO (gU V.om ys)).length [] (iO (gU V.om ys))/\(iO (gU V.om ys)).length<=200:=by
 have hM:mN N<=1000000000000000:=by unfold mN;omega
 obtain⟨hp,hso⟩:=hy
 have hcnt:=h.count hi hs
 have hno:=h.gp
 have hmem:∀y∈ys,VL V y/\(V.om y).side=(s:Int):=fun y hy2=>by
  have:=hp.mem_iff.1 hy2
  unfold upto at this
  rw[List.mem_map]at this
  obtain⟨k,hk,rfl⟩:=this
  rw[List.mem_range]at hk
  have:=((h.gw.gb i hi).mem s hs _).1 ⟨k,hk,rfl⟩
  exact⟨this.1,this.2.2.1⟩
 have hlen:(gU V.om ys).length<=200:=by
  unfold gU
  rw[List.length_map,hp.length_eq,lU]
  omega
 have hl2:=uo (gU V.om ys) []
 have hL:(iO (gU V.om ys)).length<=200:=by
  unfold iO
  simp only[List.length_nil]at hl2
  omega
 refine⟨?_,hL⟩
 have hspec:=Ut (s:Int) (gU V.om ys) (by omega) (fun o ho=>by
  unfold gU at ho
  rw[List.mem_map]at ho
  obtain⟨y,hy2,rfl⟩:=ho
  have q:=h.gw.q y (hmem y hy2).1
  have:=q.o0;have:=q.f0;have:=q.c0;have:=q.e0;have:=q.sum;have:=q.hi
  omega) (by
  unfold gU
  rw[List.pairwise_map]
  have hpw:ys.Pairwise (fun a b=>(a∈ys/\b∈ys)/\fG V.om b a=false):=by
   rw[List.pairwise_iff_getElem]at hso ⊢
   intro a b ha hb hab
   exact⟨⟨List.getElem_mem ha,List.getElem_mem hb⟩,hso a b ha hb hab⟩
  refine hpw.imp ?_
  rintro a b ⟨⟨ha,hb⟩,hlt⟩
  unfold fG at hlt
  rw[gQ]at hlt
  rw[(hmem b hb).2]at hlt
  unfold yj
  intro hx
  exact hlt (.inl hx))
 refine L9 s hs S.l (V.B i).sym ((gU V.om ys).map po) _ (by have:=h.no;omega) (fun k hk=>by have:=h.aK hk;omega) ?_ hspec
 have hperm:=h.perm hi hs
 have h1:((gU V.om ys).map po).Perm (((upto ((V.B i).h s) ((V.B i).n s)).map V.om).map po):=by
  unfold gU
  exact ((hp.map _).map _)
 refine h1.trans ?_
 refine ((hperm.map V.om).map po).trans ?_
 rw[List.map_map,List.map_map,List.map_map]
 refine List.Perm.of_eq (List.map_congr_left (fun k hk=>?_))
 obtain⟨_,_,_,_,_,e6,_,_,e9,_⟩:=fE (h.same k (yJ.1 hk).1)
 simp only[Function.comp,po,e6,e9]
open Go.RowKit
attribute [local go_sem ↓] Go.wp_at_zero Go.wp_at_succ
end Go.Proofs.YtigaphnafnpfnaaGreatDoor
