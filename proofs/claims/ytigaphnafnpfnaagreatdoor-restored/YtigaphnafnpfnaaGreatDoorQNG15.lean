import Derived.Test.YtigaphnafnpfnaaGreatDoorQNP1
import Derived.Test.YtigaphnafnpfnaaGreatDoorQNQ2
set_option linter.unusedVariables false
set_option linter.unusedSimpArgs false
namespace Go.Proofs.YtigaphnafnpfnaaGreatDoor
open Go.RowKit Go.Maps
theorem dA.iH{p:Nat->Nat}{V:aS}{S:RS}{N k tb:Nat}{x:Tg}{bM:Lm}(h:dA p V S N)(hx:S.t[k]?=some x):dA p { V with lg:=V.lg.iH k tb x.t,lm:=bM } (S.fresh.Sz k x) (N+1):=by
 have hl:=(List.getElem?_eq_some_iff.1 hx).1;refine⟨⟨h.gw.gb,h.gw.lW,fun y hy=>?_,h.gw.sym,h.gw.side⟩,h.nb,h.sym,h.no,h.aW,h.zY,h.inj,h.same,h.place,h.xy,h.O3,h.O4,fun i hi=>?_,?_,?_,h.day,?_,?_,?_,h.gV,h.UJ,h.rJ⟩
 ·have q:=h.gw.q y hy;exact⟨q.sum,q.o0,q.f0,q.c0,q.e0,by have:=q.hi;unfold mN at this ⊢;push_cast;omega⟩
 ·have h5:=h.EU i hi;exact⟨h5.1,by show (V.B i).places<=_;push_cast;have:=h5.2;omega⟩
 ·have h5:=h.Rx;exact⟨h5.1,by show S.places<=_;push_cast;have:=h5.2;omega⟩
 ·show V.lg.tr.set k ⟨x.t,false⟩=S.t.set k ⟨x.t,false⟩;rw[h.tr]
 ·show (V.lg.tr.set k ⟨x.t,false⟩).length<=_;rw[List.length_set];have:=h.yu;omega
 ·show (V.lg.tp++[(⟨(V.lg.tp.length:Int)+1,2,x.t⟩:Rc)]).length<=_;rw[List.length_append,List.length_singleton];have:=h.DJ;omega
 ·show V.lg.ud+(V.lg.na+1)<=N+1;have:=h.zX;omega
theorem dA.index{p:Nat->Nat}{V:aS}{S:RS}{N:Nat}(h:dA p V S N){id:Int}{b:Nat}(hb:V.aW id=some b):∃j,iU S.l id=some j/\j<S.l.length/\p j=b:=by
 have hf:=h.found id;rw[hb]at hf;cases hx:iU S.l id with
 | none=>rw[hx]at hf;simp at hf
 | some j =>
   rw[hx]at hf;simp at hf;exact⟨j,rfl,(xW hx).1,hf.symm⟩
theorem je.with{bv bm bo:Nat}{V:aS}{Q Q':aS->World->Prop}{w w':World}(h:je bv bm bo V Q w w')(hq:∀V2,Q V2 w'->Zp V.lg V2.lg 3->V2.aW=V.aW->Q' V2 w'):je bv bm bo V Q' w w':=by
 obtain⟨V2,a,b,c,d,e,f⟩:=h;exact⟨V2,a,hq V2 b c e,c,d,e,f⟩
def BuQ(p:Nat->Nat)(V:aS)(S:RS)(N:Nat)(hl:List Tr)(ex:Int->Int)(V2:aS):Prop :=
 dA p V2 S N/\FL V2.om V2.aW hl ex/\V2.nb=V.nb/\∀j,(V2.B j).sym=(V.B j).sym
def Rh(bv:Nat)(V0:aS)(bk:Nat->Nat)(lw:Nat)(l:List Nat)(B:List (Int × Tr))(V:aS)(W:World):Prop :=
 ∃Ts cl,jO bk (KK l) V.lg.nt Ts V0 V/\Ts.flatten=B/\V.bk=V0.bk/\iw W bv bk lw true (V0.lm.ac.map Prod.snd) V.lg.nt V0.lm.tb V.lm cl/\AO V cl
theorem Rh.aB{bv:Nat}{V0:aS}{bk:Nat->Nat}{lw:Nat}{l:List Nat}{B:List (Int × Tr)}{V:aS}{W W':World}(h:Rh bv V0 bk lw l B V W)(k:aj aJ W W'):Rh bv V0 bk lw l B V W':=by
 obtain⟨Ts,cl,h1,h2,h3,h4,h5⟩:=h;exact⟨Ts,cl,h1,h2,h3,h4.aB k,h5⟩
theorem Rh.tb{bv:Nat}{V0:aS}{bk:Nat->Nat}{lw:Nat}{l:List Nat}{B:List (Int × Tr)}{V V2:aS}{W W2:World}{M q:Int}{i s t b:Nat}{again:Bool}(h:Rh bv V0 bk lw l B V W)(hK:KK l V)(g:GW V M)(hv:Zu V M i s b q again V2)(hc:∃old dW,TbC bv V i s t b again bk lw old dW V2 W2/\old=V0.lm.ac.map Prod.snd/\dW=V0.lm.tb)(hb:VL V b)(hi:i<V.nb)(ht:t<2)(hsb:(V.om b).sym=(V.B i).sym)(hsd:(V.om b).side=(t:Int))(hbk0:bk b=V.bk i)(h0:0<=(V.B i).places)(h1:(V.B i).places<=1000000000000)
 (hM:M<=1000000000000000) (hq:1<=q) (hq2:q<=(V.om b).filled) (htr:V2.lg.tr=V.lg.tr) (hdy:V2.lg.day=V.lg.day):Rh bv V0 bk lw l B V2 W2:=by
 obtain⟨Ts,cl,u,e1,e2,cu,sp⟩:=h;obtain⟨old,dW,⟨c1,c2,c3,Yx,Yz,sp2⟩,rfl,rfl⟩:=hc;obtain⟨Ts2,u2⟩:=aaI (bk:=bk) g hv hK hb hi ht hsb hsd hbk0 h0 h1 hM hq hq2 c1 htr hdy (Yz.tb.trans cu.tb.symm);obtain⟨b1,b2,b3⟩:=PM V i s b again;refine⟨Ts++Ts2,Yx,by rw[c2];exact u.append u2,by rw[List.flatten_append,e1,u2.lM b2,b1,List.append_nil],c1.trans e2,Yz,sp2⟩
theorem VG(bv bm bo b N:Nat)(V0 V:aS)(p:Nat->Nat)(S:RS)(id q P:Int)(again:Bool)(hl:List Tr)(ex Ez:Int->Int)(w:World)(bk:Nat->Nat)(lw:Nat)(l:List Nat)(B:List (Int × Tr))(hn:Rh bv V0 bk lw l B V w)(Wh:lw<=w.heap.size)(hbk:∀i,i<V.nb->(V.om b).sym=(V.B i).sym->bk b=V.bk i)(uP:∀i t:Nat,i<V.nb->t<2->(V.om b).side=(t:Int)->∀g,ig ((V.B i).sl t)=some g->g<lw)(hK:KK l V)(R:dS w bv bm bo V)(h:dA p V S N)(hN:N<3000000)(hb:BuQ p V0 S N hl ex V)(hid:V.aW id=some b)(hsz:∀i,i<V.nb->(V.B i).sym.size<=100){j:Nat}(hj:j<S.l.length)(Rt:p j=b)
 (hP:∀a,a<V.nb->(V.B a).places<=P) (hPS:S.places<=P) (hP2:P+1<=2 * (N:Int)) (hq:1<=q) (hq2:q<=(V.om b).filled) (e1:Ez id=ex id-q) (e2:∀j,j≠id->Ez j=ex j) (hna:0<V.lg.na) (hnt:V.lg.nt.length+3<1000000000) :
 CT 75 #[PP bv,PP b,II q,.bool again] w fun e w'=>e=.returned (.tuple #[])/\je bv bm bo V (fun V2 W=>(BuQ p V0 (S.gm j q again) N hl Ez V2/\(∀a,a<V2.nb->(V2.B a).places<=P+1)/\Zp V.lg V2.lg 3)/\Rh bv V0 bk lw l B V2 W/\(∀j y:Nat,(y:Int)≠(V.om b).side->(V2.B j).sl y=(V.B j).sl y)/\∀y,(V2.om y).sym=(V.om y).sym/\(V2.om y).side=(V.om y).side) w w':=by
 subst Rt;have hv:VL V (p j):=⟨id,hid⟩;obtain⟨i,t,hi,t2,hsb,hside⟩:=h.gw.idx hv;obtain⟨s,hs,hst⟩:∃s,s<2/\t=1-s:=⟨1-t,by omega,by omega⟩;have hM:mN N<=1000000000000000:=by unfold mN;omega
 have hcn:=h.count hi t2;have acT:=h.gV;have iJ:=h.zX;have hpb:=h.EU i hi;obtain⟨Ts,cl,u,ef,eb,cu,sp⟩:=hn;refine (QT bv bm bo (p j) i s t V (mN N) id q again w bk lw _ _ cl cu sp Wh (hbk i hi hsb) (uP i t hi t2 hside) R h.gw hM (by omega) hid hi hs hst hsb hside (hsz i hi) hq hq2 hna (by omega) hnt).mono ?_;rintro e w' ⟨rfl,ht⟩;refine⟨rfl,ht.with (fun V2 hh lk ho=>?_)⟩;obtain⟨tb,tc⟩:=hh;obtain⟨s1,s2,s3,s4,s5⟩:=h.gm hN hj hi hs hst hsb hside hP hPS hP2 hq hq2 tb lk;obtain⟨_,f,b3,b4⟩:=hb;refine⟨⟨⟨s1,tb.fl f hid hM (h.gw.q _ hv) hq hq2 e1 e2,tb.nb.trans b3,fun j=>(tb.lL j).trans (b4 j)⟩,s2,lk⟩,Rh.tb ⟨Ts,cl,u,ef,eb,cu,sp⟩ hK h.gw tb ⟨_,_,tc,rfl,rfl⟩ hv hi t2 hsb hside (hbk i hi hsb) hpb.1 (by omega) hM hq hq2 lk.1 lk.2.2.1,fun j y hy=>tc.2.2.1 j y (fun e=>hy ?_),fun y=>?_⟩
 ·rw[e.2,hside]
 ·rcases tb.way with⟨_,jK,_⟩ | ⟨_,_,_,jK,_⟩
  ·rw[jK];by_cases e:y=p j
   ·rw[e,ai];exact⟨rfl,rfl⟩
   ·rw[ah _ _ e];exact⟨rfl,rfl⟩
  ·rw[jK];by_cases e:y=p j
   ·rw[e];exact⟨by simp[cZ,ai,fM],by simp[cZ,ai,fM]⟩
   ·exact⟨by simp only[cZ,ah _ _ e],by simp only[cZ,ah _ _ e]⟩
theorem UR{l:List Ord}{f:Ord->Ord}{k:Nat}(h:k<l.length):ax (l.map f) k=f (ax l k):=by
 unfold ax;rw[List.getD_eq_getElem?_getD,List.getD_eq_getElem?_getD,List.getElem?_map,List.getElem?_eq_getElem h]
 rfl
theorem Tc{M:Int}{a b:Ord}(h:mW a=mW b)(q:Qo M a)(hM:M<=1000000000000000):mW (D7 a)=mW (FW b):=by
 obtain⟨e1,e2,e3,e4,e5,e6,e7,e8,e9,e10,e11,e12⟩:=fK h;have q1:=q.sum;have q2:=q.o0;have q3:=q.f0;have q4:=q.c0;have q5:=q.e0;have q6:=q.hi;unfold D7 FW;by_cases hk:a.kind=1
 ·rw[if_pos (show b.kind=1 by rw[<-e5];exact hk)];by_cases ho:0<a.aO
  ·rw[if_pos ⟨hk,ho⟩];show gQ (mW a)=gQ (mW b);rw[h]
  ·rw[if_neg (fun x=>ho x.2)];have h0:b.aO=0:=by rw[<-e9];omega
   rw[h0,Int.add_zero,aT (x:=b.exp) (by rw[<-e12];omega) (by rw[<-e12];omega),h];show mW b=mW { b with aO:=0 };rw[<-h0]
 ·rw[if_neg (fun x=>hk x.1),if_neg (show ¬b.kind=1 by rw[<-e5];exact hk)];exact h
theorem P7(o:Ord):(FW o).id=o.id/\(FW o).sym=o.sym/\(FW o).place=o.place/\(0<(FW o).aO->0<o.aO):=by
 unfold FW;split
 ·exact⟨rfl,rfl,rfl,fun h=>absurd h (by simp)⟩
 ·exact⟨rfl,rfl,rfl,fun h=>h⟩
theorem Me(o:Ord):(D7 o).place=o.place:=by unfold D7;split <;> rfl
theorem dA.closed{p:Nat->Nat}{V V':aS}{S:RS}{N:Nat}(h:dA p V S N)(hN:N<2900000)(c:ClV V (mN N) V'):dA p V' S.fresh.qg (N+1):=by
 have hM:mN N<=1000000000000000:=by unfold mN;omega
 have hlen:S.fresh.qg.l.length=S.l.length:=by simp[RS.qg,RS.fresh]
 have nk:∀k,k<S.l.length->ax S.fresh.qg.l k=FW (ax S.l k):=fun k hk=>UR hk
 have omk:∀k,k<S.l.length->V'.om (p k)=D7 (V.om (p k)):=fun k hk=>c.om _ _ (h.aW k hk)
 have dN:∀k,k<S.l.length->(ax S.fresh.qg.l k).id=(ax S.l k).id/\(ax S.fresh.qg.l k).sym=(ax S.l k).sym/\(ax S.fresh.qg.l k).place=(ax S.l k).place/\(0<(ax S.fresh.qg.l k).aO->0<(ax S.l k).aO)/\(V'.om (p k)).place=(V.om (p k)).place:=fun k hk=>by
  rw[nk k hk,omk k hk];obtain⟨a,b,c,d⟩:=P7 (ax S.l k);exact⟨a,b,c,d,Me _⟩
 have hps:S.fresh.qg.places=S.places:=rfl;refine⟨c.gw.mono (su (Nat.le_add_right N 1)),by rw[c.nb];exact h.nb,fun i hi=>by rw[c.lL i];exact h.sym i (by rw[<-c.nb];exact hi),by rw[c.no,hlen];exact h.no,fun k hk=>?_,fun id b hb=>?_,fun a b ha hb=>h.inj a b (by omega) (by omega),fun k hk=>?_,fun a b ha hb hs h1 h2=>?_,fun a b ha hb hab hs h1 h2=>?_,fun k hk h0 i hi hs=>?_,fun k hk h0=>?_,fun i hi=>?_,?_,by rw[c.tr];exact h.tr,?_,by rw[c.tr];have:=h.yu;omega,by rw[c.tp,List.length_append,List.length_singleton];have:=h.DJ;omega,by have:=h.zX;have:=c.na;have:=c.ud;omega,by rw[c.no];exact h.gV,by rw[c.nb];exact h.UJ,fun k hk=>by rw[(dN k (by omega)).1];exact h.rJ k (by omega)⟩
 ·rw[c.aW,(dN k (by omega)).1];exact h.aW k (by omega)
 ·rw[c.aW]at hb;obtain⟨k,hk,e1,e2⟩:=h.zY id b hb;exact⟨k,by omega,by rw[(dN k hk).1];exact e1,e2⟩
 ·have hk':k<S.l.length:=by omega
  rw[nk k hk',omk k hk'];exact Tc (h.same k hk') (h.gw.q _ ((h.vl _).2 ⟨k,hk',rfl⟩)) hM
 ·obtain⟨_,a2,a3,a4,a5⟩:=dN a (by omega);obtain⟨_,b2,b3,b4,b5⟩:=dN b (by omega);rw[a5,b5,a3,b3];exact h.place a b (by omega) (by omega) (by rw[<-a2,<-b2];exact hs) (a4 h1) (b4 h2)
 ·obtain⟨_,a2,a3,a4,a5⟩:=dN a (by omega);obtain⟨_,b2,b3,b4,b5⟩:=dN b (by omega);rw[a3,b3];exact h.xy a b (by omega) (by omega) hab (by rw[<-a2,<-b2];exact hs) (a4 h1) (b4 h2)
 ·obtain⟨_,a2,a3,a4,a5⟩:=dN k (by omega);rw[a5,c.Sr i];exact h.O3 k (by omega) (a4 h0) i (by rw[<-c.nb];exact hi) (by rw[<-c.lL i,hs,a2])
 ·obtain⟨_,a2,a3,a4,a5⟩:=dN k (by omega);rw[a3,hps];exact h.O4 k (by omega) (a4 h0)
 ·rw[c.Sr i];have:=h.EU i (by rw[<-c.nb];exact hi);push_cast;omega
 ·rw[hps];have:=h.Rx;push_cast;omega
 ·rw[c.day,h.day];rfl
open Go.RowKit
inductive dL where
 | list (s:ByteArray)
 | enter (o:iT)
 | gy (id:Int)
 | replace (id af aK:Int)
 | nI (n:Int) (again:Bool)
 | dM (n b:Int)
 | close
def dL.line:dL->ByteArray
 | .list s=>⟨#[108,105,115,116,32]⟩++s
 | .enter o=>oN o.id o.aG o.sym o.side o.kind o.af o.aK
 | .gy id=>fJ (fun _=>id) ⟨#[99,97,110,99,101,108]⟩ 1
 | .replace id af aK=>fJ (yl id af aK) ⟨#[114,101,112,108,97,99,101]⟩ 3
 | .nI n again=>xu n again
 | .dM n b=>fJ (tC n b) ⟨#[99,111,114,114,101,99,116]⟩ 2
 | .close=>⟨#[99,108,111,115,101]⟩
def AR(S:RS):dL->RS->Prop
 | .list s,S'=>mi S.sy s=0/\S'=S.fresh.lists s
 | .enter o,S'=>sD S o=0/\∃c f,wW S.l.length f ⟨S.fresh.add o,o.aK,0,0,0⟩ c/\S'=yU S.l.length c
 | .gy id,S'=>∃j,iU S.l id=some j/\(ax S.l j).aO≠0/\S'=S.fresh.gy j
 | .replace id af aK,S'=>∃j,iU S.l id=some j/\(ax S.l j).aO≠0/\((af=(ax S.l j).af/\aK<=(ax S.l j).aO)/\S'=S.fresh.ik j (XW (ax S.l j) aK)\/¬(af=(ax S.l j).af/\aK<=(ax S.l j).aO)/\∃c f,wW j f ⟨S.fresh.ik j (Eh (ax S.l j) af aK),aK,0,0,0⟩ c/\S'=yU j c)
 | .nI n again,S'=>∃(k:Nat) (x:Tg) (jb js:Nat),n-1=(k:Int)/\S.t[k]?=some x/\pg x S.day=0/\iU S.l x.t.qC=some jb/\iU S.l x.t.iK=some js/\S'=((S.fresh.Sz k x).gm jb x.t.aK again).gm js x.t.aK again
 | .dM n b,S'=>∃(k:Nat) (x:Tg),n-1=(k:Int)/\S.t[k]?=some x/\pg x S.day=0/\S'=S.fresh.dM k x b
 | .close,S'=>S'=S.fresh.qg
theorem wW.YA{i:Nat}:∀{f f':Nat} {c a b:RC},wW i f c a->wW i f' c b->a=b:=by
 intro f f' c a b h
 induction h generalizing f' b with
 | stop f c h =>
   intro h';cases h' with
   | stop _ _ _=>rfl
   | go f k _ _ h1 hk e =>
     rcases h with h | h
     ·exact absurd h1 h
     ·rw[h]at hk;cases hk
 | go f k c c' h hk e ih =>
   intro h';cases h' with
   | stop _ _ h1 =>
     rcases h1 with h1 | h1
     ·exact absurd h h1
     ·rw[h1]at hk;cases hk
   | go f k2 _ _ h1 hk2 e2 =>
     rw[hk]at hk2;cases hk2;exact ih e2
theorem AR.YA{S S1 S2:RS}{a:dL}(h1:AR S a S1)(h2:AR S a S2):S1=S2:=by
 cases a with
 | list s=>rw[h1.2,h2.2]
 | enter o =>
   obtain⟨_,c,f,e,rfl⟩:=h1;obtain⟨_,c',f',e',rfl⟩:=h2;rw[e.YA e']
 | gy id =>
   obtain⟨j,h,_,rfl⟩:=h1;obtain⟨j',h',_,rfl⟩:=h2;rw[h]at h';cases h';rfl
 | replace id af aK =>
   obtain⟨j,h,_,h1⟩:=h1;obtain⟨j',h',_,h2⟩:=h2;rw[h]at h';cases h';rcases h1 with⟨a,rfl⟩ | ⟨a,c,f,e,rfl⟩ <;> rcases h2 with⟨a',rfl⟩ | ⟨a',c',f',e',rfl⟩
   ·rfl
   ·exact absurd a a'
   ·exact absurd a' a
   ·rw[e.YA e']
 | nI n again =>
   obtain⟨k,x,jb,js,e1,e2,_,e3,e4,rfl⟩:=h1;obtain⟨k',x',jb',js',f1,f2,_,f3,f4,rfl⟩:=h2;have:k=k':=by omega
   subst this;rw[e2]at f2;cases f2;rw[e3]at f3;cases f3;rw[e4]at f4;cases f4
   rfl
 | dM n b =>
   obtain⟨k,x,e1,e2,_,rfl⟩:=h1;obtain⟨k',x',f1,f2,_,rfl⟩:=h2;have:k=k':=by omega
   subst this;rw[e2]at f2;cases f2
   rfl
 | close=>rw[h1,h2]
def o9(n:Int):Prop:=0<=n/\n<1000000000
def Ff(s:ByteArray):Prop:=s.data.toList≠[]/\(32:UInt8)∉s.data.toList/\(10:UInt8)∉s.data.toList/\s.size<=100
def rY:dL->Prop
 | .list s=>Ff s
 | .enter o=>o9 o.id/\o9 o.aG/\Ff o.sym/\o9 o.side/\o9 o.kind/\o9 o.af/\o9 o.aK
 | .gy id=>o9 id
 | .replace id af aK=>o9 id/\o9 af/\o9 aK
 | .nI n _=>o9 n
 | .dM n b=>o9 n/\o9 b
 | .close=>True
def jE:dL->Prop
 | .replace id af aK=>rY (.replace id af aK)/\dX af=true/\dX aK=true
 | .dM n b=>rY (.dM n b)/\dX b=true
 | a=>rY a
theorem jE.sN{a:dL}(h:jE a):rY a:=by
 cases a <;> first | exact h | exact h.1
open Go.RowKit Go.Maps Go.Shelf
structure DU(new:Int->Prop)(Am:List ByteArray)(V V':aS)(B:List (Int × Tr)):Prop where
 aW:∀id,(V'.aW id).isSome=true↔((V.aW id).isSome=true\/new id)
 nb:V'.nb=V.nb+Am.length
 sy:∀i,i<V.nb->(V'.B i).sym=(V.B i).sym
 ns:∀(j:Nat) (s:ByteArray),Am[j]?=some s->(V'.B (V.nb+j)).sym=s
 turn:mG V.lg.tr B V'.lg.tr
 told:Told V.lg.tr V.lg.tp->Told V'.lg.tr V'.lg.tp
 no:V'.no<=V.no+1
def Ic(bv bm bo:Nat)(V:aS)(S:RS)(N:Nat)(a:dL)(new:Int->Prop)(Am:List ByteArray)(w w':World):Prop :=
 Next bv bm bo V (fun V'=>∃S' p',dA p' V' S' (N+1)/\V'.lg.tp=kZ V.lg.tp S'.told/\(S'.told.length<=201/\AR S a S'/\V'.lg.js=V.lg.js++[V.lg.pl])/\vG V'/\DN bv bm bo V V' (uh S.t S'.told) w.heap.size w'/\DU new Am V V' (uh S.t S'.told)) w w'
def Iu(bv bm bo:Nat)(V:aS)(S:RS)(N:Nat)(a:dL)(new:Int->Prop)(Am:List ByteArray)(E:Int)(w w':World):Prop :=
 (E≠0/\aj aJ w w'/\∀S',¬AR S a S')\/(E=0/\Ic bv bm bo V S N a new Am w w')
def V7:Int->Prop:=fun _=>False
def Lj:List ByteArray:=[]
theorem DU.plain{V V':aS}{B:List (Int × Tr)}(h1:V'.aW=V.aW)(h2:V'.nb=V.nb)(h3:∀i,i<V.nb->(V'.B i).sym=(V.B i).sym)(h4:mG V.lg.tr B V'.lg.tr)(h5:Told V.lg.tr V.lg.tp->Told V'.lg.tr V'.lg.tp)(h6:V'.no<=V.no+1):DU V7 Lj V V' B :=
 ⟨fun id=>by rw[h1];exact⟨.inl,fun h=>h.elim id' (fun z=>z.elim)⟩,by rw[h2];rfl,h3,fun j s h=>by simp[Lj]at h,h4,h5,h6⟩
where id' {p:Prop} (h:p):p:=h
theorem rU{l:List Ord}{id:Int}{j:Nat}(h:iU l id=some j)(h0:(ax l j).aO≠0):xU l id=0:=by
 unfold xU;rw[h];simp[h0]
theorem zf{V:aS}{i:Nat}{B':Bk}{dK:Nat->Ord}{G':Lg}{bM:Lm}(h:B'.sym=(V.B i).sym)(j:Nat):((V.lu i B' dK G' bM).B j).sym=(V.B j).sym:=by
 show (aQ V.B i B' j).sym=_;by_cases e:j=i
 ·rw[e,ai,h]
 ·rw[ah _ _ e]
theorem yN(bv bm bo N:Nat)(V:aS)(p:Nat->Nat)(S:RS)(s:ByteArray)(w:World)(R:dS w bv bm bo V)(h:dA p V S N)(hN:N<2900000)(hz:vG V)(hs:s.size<=1000000000)(hpl:Hid (V.lg.pl=(dL.list s).line)) :
 CT 27 #[PP bv,.string s] w fun e w'=>e=.returned (II (mi S.sy s))/\Iu bv bm bo V S N (.list s) V7 [s] (mi S.sy s) w w':=by
 have hml:s.size<=maxLen:=by unfold maxLen;omega
 have hname:=MO s hs;have hnb:=h.nb;have h6:=h.UJ;have hsy:S.sy.length<=1000:=by omega
 rcases Np S.sy s with⟨h1,h2⟩ | ⟨h1,h2,h3⟩ | ⟨h1,h2,h3,h4⟩ | ⟨h1,h2,h3,h4⟩
 ·rw[h1]at hname;refine (Qx bv s w hname).mono ?_;rintro e w' ⟨rfl,k⟩;rw[h2];exact⟨rfl,.inl ⟨by decide,k,fun S' hA=>by have:=hA.1;rw[h2]at this;exact absurd this (by decide)⟩⟩
 ·rw[h1]at hname;obtain⟨i,hi,hsi⟩:=(h.gI s).1 h2;refine (Nr bv bm bo i V s w R hname hml hi hsi).mono ?_;rintro e w' ⟨rfl,k⟩;rw[h3];exact⟨rfl,.inl ⟨by decide,k,fun S' hA=>by have:=hA.1;rw[h3]at this;exact absurd this (by decide)⟩⟩
 ·rw[h1]at hname;have hfree:∀i,i<V.nb->(V.B i).sym≠s:=fun i hi e=>by rw[(h.gI s).2 ⟨i,hi,e⟩]at h2;exact absurd h2 (by decide)
  simp only[ge_iff_le,decide_eq_true_eq]at h3;refine (Nq bv bm bo V s w R hname hml hfree (by omega)).mono ?_;rintro e w' ⟨rfl,k⟩;rw[h4];exact⟨rfl,.inl ⟨by decide,k,fun S' hA=>by have:=hA.1;rw[h4]at this;exact absurd this (by decide)⟩⟩
 ·rw[h1]at hname;have hfree:∀i,i<V.nb->(V.B i).sym≠s:=fun i hi e=>by rw[(h.gI s).2 ⟨i,hi,e⟩]at h2;exact absurd h2 (by decide)
  simp only[ge_iff_le,decide_eq_false_iff_not]at h3;have hsz:=Qz h1;have hna:=h.zX;obtain⟨ol,hol,hov⟩:=h.ol;have yu:=h.yu;refine (aar bv bm bo V s w (IC V) R hname (by omega) hfree (by omega) (by omega) hpl).mono ?_;rintro e w' ⟨b,bM,rfl,hb,R',k,hf,cl,cu⟩;rw[h4];refine⟨rfl,.inr ⟨rfl,_,R',⟨S.fresh.lists s,p,h.di hfree (by omega),rfl,⟨by show 0<=201;omega,⟨h4,rfl⟩,rfl⟩,?_,SV R hov (by omega) (by omega) hml R' cu,⟨fun id=>⟨.inl,fun h=>h.elim aU (fun z=>z.elim)⟩,rfl,fun i hi=>by have:(V.di s b bM).B i=V.B i:=ah _ _ (by omega);rw[this],fun j s' hj=>by cases j with | zero=>(have:(V.di s b bM).B V.nb=lS s:=ai _ _ _);(simp only[List.getElem?_cons_zero,Option.some.injEq]at hj);(show ((V.di s b bM).B V.nb).sym=s');(rw[this,<-hj];rfl) | succ j=>simp at hj,mG.refl,fun z=>z,Nat.le_succ _⟩⟩,k.mono (fun x hx=>?_),fun x hx=>?_⟩⟩
  ·refine⟨?_,hz.fl,hz.sy,hz.tp,hz.nm,hz.dy⟩;intro i hi;by_cases e:i<V.nb
   ·have:(V.di s b bM).B i=V.B i:=ah _ _ (by omega);rw[this];exact hz.sz i e
   ·have e2:i=V.nb:=by have:(V.di s b bM).nb=V.nb+1:=rfl;omega
    subst e2;have:(V.di s b bM).B V.nb=lS s:=ai _ _ _;rw[this];show s.size<=100;omega
  ·rcases hx with hx | hx | hx
   ·exact .inr (.inl hx)
   ·exact .inl hx
   ·exact vU hx
  ·rcases hx with hx | hx | hx | ⟨i,hi,hx⟩ | hx | hx
   ·exact .inl (.inl hx)
   ·exact .inl (.inr (.inl hx))
   ·exact .inl (lN hx)
   ·by_cases e:i<V.nb
    ·have e1:(V.di s b bM).B i=V.B i:=ah _ _ (by omega);have e2:(V.di s b bM).bk i=V.bk i:=ah _ _ (by omega);rw[e1,e2]at hx;exact .inl (jZ ⟨i,e,hx⟩)
    ·have e2:i=V.nb:=by have:(V.di s b bM).nb=V.nb+1:=rfl;omega
     subst e2;have e1:(V.di s b bM).B V.nb=lS s:=ai _ _ _;have e2:(V.di s b bM).bk V.nb=b:=ai _ _ _;rw[e1,e2]at hx;rcases hx with hx | ⟨t,ht,hx⟩
     ·right;omega
     ·exact absurd hx (xR s t x)
   ·exact .inl (qm hx)
   ·exact (hf x hx).imp_left (fun h=>vU h)
theorem zG(bv bm bo N:Nat)(V:aS)(p:Nat->Nat)(S:RS)(id:Int)(w:World)(R:dS w bv bm bo V)(hT:kP w)(h:dA p V S N)(hN:N<2900000)(hz:vG V)(hwf:(Lit.int .i64 id).wf=true)(hpl:Hid (V.lg.pl=(dL.gy id).line)) :
 CT 37 #[PP bv,II id] w fun e w'=>∃E,e=.returned (II E)/\(E=0\/E=6\/E=10)/\Iu bv bm bo V S N (.gy id) V7 Lj E w w':=by
 have hlen:S.l.length<=1000:=by have:=h.no;have:=h.gV;omega
 rcases h.xU id with⟨h1,h2⟩ | ⟨j,h1,h2,h3,⟨h4,h5⟩ | ⟨h4,h4',h5⟩⟩
 ·refine (A7 bv bm bo V id w R hwf h1).mono ?_;rintro e w' ⟨rfl,k⟩;exact⟨6,rfl,by decide,.inl ⟨by decide,k,fun S' hA=>by obtain⟨_,q1,q2,_⟩:=hA;have:=rU q1 q2;omega⟩⟩
 ·refine (DY bv bm bo (p j) V id w R hwf h3 h4).mono ?_;rintro e w' ⟨rfl,k⟩;exact⟨10,rfl,by decide,.inl ⟨by decide,k,fun S' hA=>by obtain⟨_,q1,q2,_⟩:=hA;have:=rU q1 q2;omega⟩⟩
 ·have vM:VL V (p j):=⟨id,h3⟩;obtain⟨i,s,k,hi,hs,hk,hkb,a,c⟩:=h.open vM h4;rw[<-hkb]at h3 h4 a c vM;obtain⟨ol,hol,hov⟩:=h.ol;have yu:=h.yu;refine (SB bv bm bo i s k V id w (IC V) (uH h.gw hi hs hk) R hT hwf hi hs hk h3 h4 c a (by have:=hz.sz i hi;unfold maxLen;omega) (by have:=h.zX;omega) hpl).mono ?_;rintro e w' ⟨rfl,hm,⟨bM,hl,hf,cl,cu⟩,kc⟩;refine⟨0,rfl,by decide,.inr ⟨rfl,Next.with (Next.of R hi _ hm hl hf kc (fun x hx=>?_) (fun j hj hne t ht l hl=>?_) (fun x=>?_) rfl (fun t ht x hx=>?_) rfl) (fun R'=>⟨S.fresh.gy j,p,h.gy (ds:=[.left ((V.B i).h s k),.gp ((V.B i).h s k) (V.om ((V.B i).h s k))]) hN hi hs hk h2 hkb.symm,rfl,⟨by show 0<=201;omega,⟨j,h1,h4',rfl⟩,rfl⟩,hz.turn rfl (Le ⟨rfl,rfl,rfl,rfl⟩) rfl rfl rfl,Md R h.gw hov (by omega) (by omega) hi hs hk (uH h.gw hi hs hk) R' cu,DU.plain rfl rfl (fun x _=>zf (by rfl) x) mG.refl aU (Nat.le_succ _)⟩)⟩⟩
  ·rcases hx with hx | hx | hx | hx
   ·exact .inl hx
   ·exact .inr (.inl hx)
   ·exact lN hx
   ·exact jZ ⟨s,hs,hx⟩
  ·refine ah _ _ (fun e=>h.apart R vM a hi j hj hne t ht ?_);rw[<-e];exact .inr ⟨l,hl,rfl⟩
  ·by_cases e:x=(V.B i).h s k
   ·rw[e,ai];rfl
   ·rw[ah _ _ e]
  ·left;by_cases e:t=s
   ·subst e;refine⟨t,ht,?_⟩;rcases hx with hx | ⟨l,hl,hx⟩
    ·exact .inl hx
    ·obtain⟨k',hk',e',_⟩:=oU (om:=V.om) ((h.gw.gb i hi).inj t ht) hk l hl;exact .inr ⟨k',hk',by rw[hx,e']⟩
   ·refine⟨t,ht,?_⟩;unfold dG at hx ⊢;simp only[Bk.leave,ah _ _ e]at hx;exact hx
theorem xJ(bv bm bo N:Nat)(V:aS)(p:Nat->Nat)(S:RS)(id af aK:Int)(w:World)(R:dS w bv bm bo V)(hT:kP w)(h:dA p V S N)(hN:N<2900000)(hz:vG V)(hwf:(Lit.int .i64 id).wf=true)(hp:dX af=true)(hq:dX aK=true)(hpl:Hid (V.lg.pl=(dL.replace id af aK).line)) :
 CT 38 #[PP bv,II id,II af,II aK] w fun e w'=>∃f r n a c E,e=.returned (.tuple #[mM f r n a c,II E])/\(E=0\/E=6\/E=10)/\Iu bv bm bo V S N (.replace id af aK) V7 Lj E w w':=by
 have hlen:S.l.length<=1000:=by have:=h.no;have:=h.gV;omega
 have yu:=h.yu;have DJ:=h.DJ;have zX:=h.zX;have no2:=h.gV;rcases h.xU id with⟨h1,h2⟩ | ⟨j,h1,h2,h3,⟨h4,h5⟩ | ⟨h4,h4',h5⟩⟩
 ·refine (Aa bv bm bo V id af aK w R hwf h1).mono ?_;rintro e w' ⟨rfl,k⟩;exact⟨0,0,0,0,0,6,rfl,by decide,.inl ⟨by decide,k,fun S' hA=>by obtain⟨_,q1,q2,_⟩:=hA;have:=rU q1 q2;omega⟩⟩
 ·refine (Cm bv bm bo (p j) V id af aK w R hwf h3 h4).mono ?_;rintro e w' ⟨rfl,k⟩;exact⟨0,0,0,0,0,10,rfl,by decide,.inl ⟨by decide,k,fun S' hA=>by obtain⟨_,q1,q2,_⟩:=hA;have:=rU q1 q2;omega⟩⟩
 ·by_cases hnum:True
  ·have OH:1<=aK/\aK<=1000000:=by simpa [dX] using hq
   have vM:VL V (p j):=⟨id,h3⟩;obtain⟨i,t,k,hi,ht,hk,hkb,a,c⟩:=h.open vM h4;have hap:=h.apart R vM a hi;obtain⟨e1,e2,e3,e4,e5,e6,e7,e8,e9,e10,e11,e12⟩:=fK (h.same j h2);have h00:=(h.gw.q _ vM).o0;obtain⟨ol,hol,hov⟩:=h.ol;by_cases hkeep:af=(V.om (p j)).af/\aK<=(V.om (p j)).aO
   ·refine (CB bv bm bo (p j) i V id af aK w (IC V) R hT hwf h3 h4 hp hq hi hkeep.1 hkeep.2 (by omega) hpl).mono ?_;rintro e w' ⟨rfl,hm,⟨bM,hl,hf,cl,cu⟩,kc⟩;refine⟨0,aK,0,0,0,0,rfl,by decide,.inr ⟨rfl,Next.with (Next.of R hi _ hm hl hf kc (fun x hx=>?_) (fun j' hj' hne t' ht' l hl=>?_) (fun x=>?_) rfl (fun t' ht' x hx=>.inl ⟨t',ht',hx⟩) rfl) (fun R'=>⟨_,p,h.keeps (i:=i) (ds:=[.gp (p j) (V.om (p j))]) hN h2 hkeep.1 OH.1 OH.2 (by omega),rfl,⟨by show 0<=201;omega,⟨j,h1,h4',.inl ⟨⟨by rw[<-e6];exact hkeep.1,by rw[<-e9];exact hkeep.2⟩,rfl⟩⟩,rfl⟩,hz.turn rfl (Le ⟨rfl,rfl,rfl,rfl⟩) rfl rfl rfl,SQ R hov (by omega) (by omega) vM hkeep.1 R' cu,DU.plain rfl rfl (fun x _=>zf (by rfl) x) mG.refl aU (Nat.le_succ _)⟩)⟩⟩
    ·rcases hx with hx | hx | hx
     ·exact .inl hx
     ·exact .inr (.inl hx)
     ·exact .inr (.inr (.inr (.inr ⟨by rw[hx];exact vM,by rw[hx];exact hap⟩)))
    ·refine ah _ _ (fun e=>hap j' hj' hne t' ht' ?_);rw[<-e];exact .inr ⟨l,hl,rfl⟩
    ·by_cases e:x=p j
     ·rw[e,ai];rfl
     ·rw[ah _ _ e]
   ·obtain⟨s,hs,hts⟩:∃s,s<2/\t=1-s:=⟨1-t,by omega,by omega⟩;have hcn:=h.count hi ht;have hcs:=h.count hi hs;have iv:=(h.rC (g:=0) (cap':=0) (bM:=V.lm) (af:=af) hN hi hs hts hk h2 hkb OH.1 OH.2).1;refine (Cj bv bm bo (p j) i s t k V id af aK w (IC V) (fun y hy l hl=>uH h.gw hi hy hl) R hT hwf h3 h4 hp hq hi a (by have:=hz.sz i hi;unfold maxLen;omega) hs hts hk hkb c hkeep iv (by omega) (by omega) (by omega) (by omega) (by omega) hpl).mono ?_;rintro e w' ⟨v,w3,lZ,rfl,k3,hf3,w4,⟨hv,g,cap',bM,hm,hl,hf,k4,hg,ext,cl,cu,hsg⟩,hr4,k5⟩;obtain⟨_,c',f,hEn,abq,eX,hrep,htp,htold⟩:=h.rC (g:=g) (cap':=cap') (bM:=bM) (af:=af) hN hi hs hts hk h2 hkb OH.1 OH.2;obtain⟨gv,run,ivz,hBs,_⟩:=h.gw.rC (g:=g) (cap':=cap') (bM:=bM) (su (Nat.le_add_right N 1)) (by unfold mN;omega) hi hs hts hk hkb (o':=dV (V.om (p j)) af aK) rfl rfl (GX (M':=mN (N+1)) (h.gw.q _ vM) (by unfold mN;push_cast;omega) (by unfold mN;omega) OH.1 OH.2).1;obtain⟨rf,rr,rn,ra,rk,hrv⟩:=U1 j c';refine⟨rf,rr,rn,ra,rk,0,?_,by decide,.inr ⟨rfl,?_⟩⟩
    ·rw[<-hrv,<-hrep,hv];simp only[ai]
     rfl
    have sz3:=k3.size;have Vy:∀y,y<2->∀x,dG ((V.B i).leave V.om t k) y x->dG (V.B i) y x:=fun y hy x hx=>by
     by_cases e:y=t
     ·subst e;rcases hx with hx | ⟨l,hl,hx⟩
      ·exact .inl hx
      ·obtain⟨k',hk',e',_⟩:=oU (om:=V.om) ((h.gw.gb i hi).inj y hy) hk l hl;exact .inr ⟨k',hk',by rw[hx,e']⟩
     ·unfold dG at hx ⊢;simp only[Bk.leave,ah _ _ e]at hx;exact hx
    obtain⟨f1,f2,f3,f4,f5⟩:=jy (p j) s (mu (p j) s ⟨(V.B i).leave V.om t k,aQ V.om (p j) (dV (V.om (p j)) af aK),V.lg.dI (p j) (V.om (p j))⟩) ⟨(V.B i).leave V.om t k,aQ V.om (p j) (dV (V.om (p j)) af aK),V.lg.dI (p j) (V.om (p j))⟩;have kk:aj (fun x=>x=bv\/V.lm.F x\/x=V.bk i\/x=p j\/dG (V.B i) s x\/dG (V.B i) t x) w w4:=by
     refine (k3.mono (fun x hx=>?_)).from (k4.mono (fun x hx=>?_))
     ·rcases hx with hx | hx | hx | hx | hx
      ·exact .inl hx
      ·exact .inr (.inl hx)
      ·exact lN hx
      ·exact jZ hx
      ·exact vU hx
     ·rcases hx with hx | hx | hx | hx | hx | hx
      ·exact .inl (.inl hx)
      ·exact (hf3 x hx).imp_left (fun h=>.inr (.inl h))
      ·exact .inl (lN hx)
      ·exact .inl (jZ hx)
      ·exact .inl (qm (Vy s hs x hx))
      ·exact .inl (vU (Vy t ht x hx))
    have dN:∀x,pX (aQ V.om (p j) (dV (V.om (p j)) af aK) x) ((mF (p j) s ⟨(V.B i).leave V.om t k,aQ V.om (p j) (dV (V.om (p j)) af aK),V.lg.dI (p j) (V.om (p j))⟩).om x):=run.dN;have lY:=run.lY;have hN':=Next.with (Q:=fun V'=>∃S' p',dA p' V' S' (N+1)/\V'.lg.tp=kZ V.lg.tp S'.told/\(S'.told.length<=201/\AR S (.replace id af aK) S'/\V'.lg.js=V.lg.js++[V.lg.pl])/\vG V'/\DN bv bm bo V V' (uh S.t S'.told) w.heap.size w4/\DU V7 Lj V V' (uh S.t S'.told)) (Next.of R hi _ hm hl (fun x hx=>(hf x hx).elim (fun h=>hf3 x h) (fun h=>.inr (Nat.le_trans sz3 h))) kk (fun x hx=>?_) (fun j' hj' hne t' ht' l hl=>?_) (fun x=>?_) ?_ (fun t' ht' x hx=>?_) rfl) (fun R'=>⟨yU j c',p,eX,htp,⟨htold,⟨j,h1,h4',.inr ⟨fun z=>hkeep ⟨by rw[e6];exact z.1,by rw[e9];exact z.2⟩,c',f,hEn,rfl⟩⟩,by show (mF _ _ _).lg.js=_;rw[YP];rfl⟩,hz.rC h.gw (su (Nat.le_add_right N 1)) (by unfold mN;omega) hi hs hts hk hkb rfl rfl rfl rfl (GX (M':=mN (N+1)) (h.gw.q _ vM) (by unfold mN;push_cast;omega) (by unfold mN;omega) OH.1 OH.2).1 ivz hBs,?_⟩)
    ·exact (hN'.bJ hr4 (Nat.le_refl _) k5).mono (fun V2 ⟨S',p',a1,a2,a4,a5,a6,a7⟩=>⟨S',p',a1,a2,a4,a5,a6.bJ hr4 k5,a7⟩)
    ·rcases hx with hx | hx | hx | hx | hx | hx
     ·exact .inl hx
     ·exact .inr (.inl hx)
     ·exact lN hx
     ·exact .inr (.inr (.inr (.inr ⟨by rw[hx];exact vM,by rw[hx];exact hap⟩)))
     ·exact jZ ⟨s,hs,hx⟩
     ·exact jZ ⟨t,ht,hx⟩
    ·have hne2:(V.B j').h t' l≠p j:=fun e=>hap j' hj' hne t' ht' (by rw[<-e];exact .inr ⟨l,hl,rfl⟩)
     rw[rD _ _ hne2,lY _ hne2 (fun hmm=>?_)]
     ·exact ah _ _ hne2
     ·obtain⟨k2,hk2,e2⟩:=hmm;have hsd:dG (V.B i) s ((V.B j').h t' l):=Vy s hs _ (.inr ⟨k2,hk2,e2⟩);exact R.nM i j' hi hj' (fun e=>hne e.symm) s t' hs ht' _ hsd (.inr ⟨l,hl,rfl⟩)
    ·rw[yL];rw[(dN x).1];by_cases e:x=p j
     ·rw[e,ai];rfl
     ·rw[ah _ _ e]
    ·rw[oD];exact f4
    ·rcases Ba hx with hx | hx | hx
     ·left;by_cases es:t'=s
      ·subst es;refine⟨t',ht',Vy t' ht' x ?_⟩;exact (yQ _ _ iv).2.2.1 x hx
      ·refine⟨t',ht',Vy t' ht' x ?_⟩;unfold dG mF at hx;rw[f2,(f1 t' es).1,(f1 t' es).2]at hx;exact hx
     ·exact .inr (.inl ⟨by rw[hx];exact vM,by rw[hx];exact hap⟩)
     ·rcases hg with hg | hg
      ·exact .inl ⟨t,ht,.inl (by rw[hx];exact hg)⟩
      ·right;right;omega
    ·have abN:(mF (p j) s ⟨(V.B i).leave V.om t k,aQ V.om (p j) (dV (V.om (p j)) af aK),V.lg.dI (p j) (V.om (p j))⟩).lg.tr.length<=_:=eX.yu;have hpb:=h.EU i hi;obtain⟨did,tn⟩:=SN (M:=mN N) R h.gw hov (by omega) hi hs ht (by omega) hk hkb (by omega) iv (by omega) (fun u hu k hk=>uH h.gw hi hu hk) hpb.1 (by omega) R' cu hsg _ rfl;rw[tn.uh htp];exact⟨did,DU.plain rfl rfl (fun x _=>zf (by rw[oD];exact f4) x) (TT.SK (st:=⟨(V.B i).leave V.om t k,aQ V.om (p j) (dV (V.om (p j)) af aK),V.lg.dI (p j) (V.om (p j))⟩) mG.refl) (fun z=>Fg (st:=⟨(V.B i).leave V.om t k,aQ V.om (p j) (dV (V.om (p j)) af aK),V.lg.dI (p j) (V.om (p j))⟩) z) (Nat.le_succ _)⟩
  ·exact absurd trivial hnum
theorem BJ(bv bm bo N:Nat)(V:aS)(p:Nat->Nat)(S:RS)(o:iT)(w:World)(R:dS w bv bm bo V)(hT:kP w)(h:dA p V S N)(hN:N<2900000)(hz:vG V)(hlen:o.sym.size<=1000000000)(hid:(Lit.int .i64 o.id).wf=true)(bOw:iI o.aG)(bKd:iI o.kind)(bPr:iI o.af)(hpl:Hid (V.lg.pl=(dL.enter o).line)) :
 CT 64 #[PP bv,o.val] w fun e w'=>∃f r n a c,e=.returned (.tuple #[mM f r n a c,II (sD S o)])/\(sD S o=0->f+r+n=o.aK/\0<=f/\0<=r/\0<=n/\(c=0↔f=0))/\Iu bv bm bo V S N (.enter o) (fun x=>x=o.id) Lj (sD S o) w w':=by
 have hM:mN N<=1000000000000000:=by unfold mN;omega
 have hml:o.sym.size<=maxLen:=by unfold maxLen;omega
 have hlS:S.l.length<=200:=by have:=h.no;have:=h.gV;omega
 have hsy:S.sy.length<=1000:=by have:=h.nb;have:=h.UJ;omega
 have hop:∀k,k<S.l.length->0<=(ax S.l k).aO/\(ax S.l k).aO<=1000000000000000:=fun k hk=>by have:=h.aO hk;omega
 have yu:=h.yu;have DJ:=h.DJ;have zX:=h.zX;have hrf:=JW bv bm bo h hN o hml hid;by_cases hE:sD S o=0
 ·have TS:=h.aaA o;rw[hE]at TS;rcases pI o (V.aW o.id).isSome (jI S.sy o.sym) (decide (200<=V.no)) (gZ S.l o).isSome (decide (um S.l o S.l.length<o.aK)) with⟨_,e⟩ | ⟨_,_,e⟩ | ⟨g1,g2,⟨_,e⟩ | ⟨_,_,e⟩ | ⟨g3,g4,⟨_,e⟩ | ⟨g5,⟨_,e⟩ | ⟨_,_,e⟩ | ⟨g6,g7,⟨g8,e⟩ | ⟨g8,g9,e⟩ | ⟨g8,g9,e⟩⟩⟩⟩⟩
  case inr.inr.inr.inr.inr.inr.inr.inr.inr =>
   have h2:V.aW o.id=none:=by simpa using g2
   have h8:V.no<200:=by simp at g9;omega
   obtain⟨i,hi,dR⟩:=(h.gI _).1 g8;have hsd:o.side=0\/o.side=1:=by
    unfold ni at g4;simp at g4;exact g4
   obtain⟨t,ht,hst⟩:∃t:Nat,t<2/\o.side=(t:Int):=by
    rcases hsd with e | e
    ·exact⟨0,by omega,e⟩
    ·exact⟨1,by omega,e⟩
   obtain⟨s,hs,hts⟩:∃s,s<2/\t=1-s:=⟨1-t,by omega,by omega⟩;have OH:1<=o.aK/\o.aK<=1000000:=by simpa [dX] using g6
   have abI:o.sym.size<=100:=by rw[<-dR];exact hz.sz i hi
   have hinv:∀k,k<(V.B i).n s->(V.om ((V.B i).h s k)).side=(s:Int)/\0<(V.om ((V.B i).h s k)).aO/\(V.om ((V.B i).h s k)).aO<=1000000000000000:=fun k hk=>by
    obtain⟨a,b,c,d⟩:=((h.gw.gb i hi).mem s hs _).1 ⟨k,hk,rfl⟩;have q:=h.gw.q _ a;exact⟨c,d,by have:=q.sum;have:=q.f0;have:=q.c0;have:=q.e0;have:=q.hi;omega⟩
   rw[hE]at hrf;obtain⟨ol,hol,hov⟩:=h.ol;obtain⟨Yt,abk⟩:∃f:Nat->Nat,f=fun x=>if x<w.heap.size then IC V x else V.bk i:=⟨_,rfl⟩
   have bk1:∀y,y<2->∀l,l<(V.B i).n y->Yt ((V.B i).h y l)=V.bk i:=fun y hy l hl=>by
    obtain⟨id',ZV⟩:=R.mem i hi y hy l hl;obtain⟨_,ix,ho⟩:=R.bz id' _ ZV;rw[abk];simp only[if_pos ho.lt];exact uH h.gw hi hy hl
   have bk2:∀x,w.heap.size<=x->Yt x=V.bk i:=fun x hx=>by
    rw[abk];simp only[if_neg (show ¬x<w.heap.size by omega)]
   refine (Xd bv bm bo i s t V o w Yt bk1 bk2 R hT hi dR abI bOw bKd bPr g1 h2 g6 h8 hrf hs hts hst hinv (h.count hi (by omega)) (h.count hi hs) (by omega) (by omega) (by omega) hpl).mono ?_;rintro e w' ⟨v,rfl,b,g,cap',bM,hb,rfl,R',k,hF,_,ext,cl,cu,hsg⟩;have hbn:¬VL V b:=fun ⟨id,hx⟩=>by
    obtain⟨_,ix,hob⟩:=R.bz id b hx;have:=hob.lt;omega
   obtain⟨c',f,hEn,abq,eX,hrep,htp,htold⟩:=h.enter (g:=g) (cap':=cap') (bM:=bM) hN hi hs hts dR.symm hst OH.1 OH.2 h2 hbn h8 g1;obtain⟨gv,run,ivz,hBs,_⟩:=h.gw.enter (b:=b) (g:=g) (cap':=cap') (bM:=bM) hM hi hs hts dR.symm hst (by omega) (by unfold mN;omega) h2 hbn;have abN:(mF b s ⟨V.B i,aQ V.om b (aN o),V.lg.bf o.id⟩).lg.tr.length<=_:=eX.yu;have hcs:=h.count hi hs;have hpb:=h.EU i hi;obtain⟨did,tn⟩:=PZ (l:=ol++[b]) R h.gw (fun x hx=>List.mem_append_left _ (hov x hx)) (by simp) (by simp;omega) hi hs hts hid h2 hb (by omega) ivz (by omega) (fun k hk=>bk1 s hs k hk) (bk2 b hb) hpb.1 (by omega) R' cu hsg;obtain⟨xf,xr,xc,xa,xm,hx,hsum⟩:=QL (o:=o) (b:=b) (s:=s) (B:=V.B i) (om:=V.om) (lg:=V.lg.bf o.id) hM run (by show V.lg.tr.length+_<=_;omega);rw[hE];refine⟨xf,xr,xc,xa,xm,?_,fun _=>⟨hsum.1,hsum.2.1,hsum.2.2.1,hsum.2.2.2.1,hsum.2.2.2.2.1⟩,.inr ⟨rfl,_,R',⟨yU S.l.length c',_,eX,htp,⟨htold,⟨hE,c',f,hEn,rfl⟩,by show (mF _ _ _).lg.js=_;rw[YP];rfl⟩,?_,by rw[tn.uh htp];exact did,⟨fun id=>?_,rfl,fun j hj=>hBs j,fun j z hz=>by simp[Lj]at hz,by rw[tn.uh htp];exact TT.SK (st:=⟨V.B i,aQ V.om b (aN o),V.lg.bf o.id⟩) mG.refl,fun z=>Fg (st:=⟨V.B i,aQ V.om b (aN o),V.lg.bf o.id⟩) z,Nat.le_refl _⟩⟩,k,hF⟩⟩
   ·rw[<-hx];simp only[aS.tr,aS.enter,tY];rfl
   ·exact hz.enter h.gw hM hi hs dR.symm (by omega) (by unfold mN;omega) h2 hbn ivz hBs
   ·show (if id=o.id then some b else V.aW id).isSome=true↔_;by_cases e:id=o.id
    ·rw[if_pos e];exact⟨fun _=>.inr e,fun _=>rfl⟩
    ·rw[if_neg e];exact⟨.inl,fun h=>h.elim aU (fun z=>absurd z e)⟩
  all_goals
   rw[e]at TS;exact absurd TS (by decide)
 ·refine (P6 bv o (sD S o) w hE (fun W kW=>hrf W (R.aB kW))).mono ?_;rintro e w' ⟨rfl,k⟩;exact⟨0,0,0,0,0,rfl,fun h=>absurd h hE,.inl ⟨hE,k,fun S' hA=>hE hA.1⟩⟩
theorem O5(x:Tg)(day:Int):pg x day=0\/pg x day=6\/pg x day=10\/pg x day=11:=by
 unfold pg;split
 ·exact lN rfl
 ·split
  ·exact DR rfl
  ·exact .inl rfl
theorem xI(bv bm bo N:Nat)(V:aS)(p:Nat->Nat)(S:RS)(n b:Int)(w:World)(R:dS w bv bm bo V)(hT:kP w)(h:dA p V S N)(hN:N<2900000)(hz:vG V)(hb:dX b=true)(hpl:Hid (V.lg.pl=(dL.dM n b).line)) :
 CT 40 #[PP bv,II n,II b] w fun e w'=>∃E,e=.returned (II E)/\(E=0\/E=6\/E=10\/E=11)/\Iu bv bm bo V S N (.dM n b) V7 Lj E w w':=by
 have hN1:=h.yu;have YC:=h.DJ;have hN3:=h.zX;have hl:S.t.length<=1000000000:=by rw[<-h.tr];omega
 by_cases hr:n<1\/(V.lg.tr.length:Int)<n
 ·refine (zu bv n 6 b none w (by decide) (fun W kW=>DC bv bm bo V.lg V.lm n W (R.aP.aB kW) hr)).mono ?_;rintro e w' ⟨rfl,kk⟩;exact⟨6,rfl,by decide,.inl ⟨by decide,kk,fun S' hA=>by obtain⟨k',x',q1,q2,_⟩:=hA;have:=(List.getElem?_eq_some_iff.1 q2).1;rw[<-h.tr]at this;omega⟩⟩
 ·obtain⟨k,hk⟩:∃k:Nat,n-1=(k:Int):=⟨(n-1).toNat,by omega⟩;have hkl:k<V.lg.tr.length:=by omega
  obtain⟨x,hx⟩:∃x,V.lg.tr[k]?=some x:=⟨_,List.getElem?_eq_getElem hkl⟩;obtain⟨tb,htb⟩:∃tb,V.lm.tb[k]?=some tb:=⟨_,List.getElem?_eq_getElem (by rw[R.aP.aP.len];exact hkl)⟩;have YL:S.t[k]?=some x:=by rw[<-h.tr];exact hx
  have hd:V.lg.day=S.day:=h.day;rcases EW x V.lg.day with hne | ⟨h0,hh⟩
  ·refine (zu bv n (pg x V.lg.day) b none w hne (fun W kW=>(yt bv bm bo k tb V.lg V.lm n x W (R.aP.aB kW) hk hx htb (by omega)).mono (fun e w' hh=>?_))).mono ?_
   ·rw[if_neg hne]at hh;exact hh
   ·rintro e w' ⟨rfl,kk⟩;exact⟨_,rfl,O5 x _,.inl ⟨hne,kk,fun S' hA=>by obtain⟨k',x',q1,q2,q3,_⟩:=hA;have e:k'=k:=(by omega);subst e;rw[YL]at q2;cases q2;rw[<-hd]at q3;exact hne q3⟩⟩
  ·obtain⟨ol,hol,hov⟩:=h.ol;refine (PV bv bm bo k tb V n b x w (IC V) R hT hk hx htb (by omega) (by omega) h0 hb (by omega) hpl).mono ?_;rintro e w' ⟨rfl,bM,hL,hF,kc,cl,cu⟩;have R':=R.jM hL kc;have hinv:uh S.t (S.fresh.dM k x b).told=[(3,x.t)]:=by
    have e1:x.t.num=(k:Int)+1:=hz.nm k x hx;show List.filterMap (Uc S.t) [⟨0,3,{ x.t with af:=b }⟩]=_;simp only[List.filterMap_cons,Uc];rw[show ((x.t.num-1).toNat)=k by omega,YL]
    rfl
   refine⟨0,rfl,by decide,.inr ⟨rfl,_,R',⟨S.fresh.dM k x b,p,h.PW YL,rfl,⟨by show 1<=201;omega,⟨k,x,hk,YL,by rw[<-hd];exact h0,rfl⟩,rfl⟩,hz.iW hx,by rw[hinv];exact IW R hov (by omega) (by omega) hx htb R' cu,by rw[hinv];exact DU.plain rfl rfl (fun _ _=>rfl) (by show mG V.lg.tr _ (V.lg.tr.set k ⟨x.t.at b,x.holds⟩);rw[hh];exact mG.dM (B:=[]) mG.refl (by rw[hx];cases x;simp only at hh;rw[hh]) rfl) (fun z=>Told.mX (G:=V.lg) z hx hh) (Nat.le_succ _)⟩,kc.mono (fun y hy=>?_),fun y hy=>?_⟩⟩
   ·rcases hy with hy | hy
    ·exact .inl hy
    ·exact vU hy
   ·rcases hy with hy | hy | hy | hy | hy | hy
    ·exact .inl (.inl hy)
    ·exact .inl (.inr (.inl hy))
    ·exact .inl (lN hy)
    ·exact .inl (jZ hy)
    ·exact .inl (qm hy)
    ·exact (hF y hy).imp_left (fun z=>vU z)
theorem EI(bv bm bo N:Nat)(V:aS)(p:Nat->Nat)(S:RS)(n:Int)(again:Bool)(w:World)(R:dS w bv bm bo V)(hT:kP w)(h:dA p V S N)(hN:N<2900000)(hz:vG V)(hpl:Hid (V.lg.pl=(dL.nI n again).line)) :
 CT 39 #[PP bv,II n,.bool again] w fun e w'=>∃E,e=.returned (II E)/\(E=0\/E=6\/E=10\/E=11)/\Iu bv bm bo V S N (.nI n again) V7 Lj E w w':=by
 have hN1:=h.yu;have YC:=h.DJ;have hN3:=h.zX;have hl0:S.t.length<=1000000000:=by rw[<-h.tr];omega
 by_cases hr:n<1\/(V.lg.tr.length:Int)<n
 ·refine (IK bv n 6 again none w (by decide) (fun W kW=>DC bv bm bo V.lg V.lm n W (R.aP.aB kW) hr)).mono ?_;rintro e w' ⟨rfl,kk⟩;exact⟨6,rfl,by decide,.inl ⟨by decide,kk,fun S' hA=>by obtain⟨k',x',_,_,q1,q2,_⟩:=hA;have:=(List.getElem?_eq_some_iff.1 q2).1;rw[<-h.tr]at this;omega⟩⟩
 ·obtain⟨k,hk⟩:∃k:Nat,n-1=(k:Int):=⟨(n-1).toNat,by omega⟩;have hkl:k<V.lg.tr.length:=by omega
  obtain⟨x,hx⟩:∃x,V.lg.tr[k]?=some x:=⟨_,List.getElem?_eq_getElem hkl⟩;obtain⟨tb,htb⟩:∃tb,V.lm.tb[k]?=some tb:=⟨_,List.getElem?_eq_getElem (by rw[R.aP.aP.len];exact hkl)⟩;have YL:S.t[k]?=some x:=by rw[<-h.tr];exact hx
  have hd:V.lg.day=S.day:=h.day;rcases EW x V.lg.day with hne | ⟨h0,hh⟩
  ·refine (IK bv n (pg x V.lg.day) again none w hne (fun W kW=>(yt bv bm bo k tb V.lg V.lm n x W (R.aP.aB kW) hk hx htb (by omega)).mono (fun e w' hh=>?_))).mono ?_
   ·rw[if_neg hne]at hh;exact hh
   ·rintro e w' ⟨rfl,kk⟩;exact⟨_,rfl,O5 x _,.inl ⟨hne,kk,fun S' hA=>by obtain⟨k',x',_,_,q1,q2,q3,_⟩:=hA;have e:k'=k:=(by omega);subst e;rw[YL]at q2;cases q2;rw[<-hd]at q3;exact hne q3⟩⟩
  ·obtain⟨f1,tw⟩:=hz.fl.mP hx hh;obtain⟨⟨bx,b1,b2,b3⟩,⟨sx,s1,s2,s3⟩,q1⟩:=tw;have nbs:x.t.qC≠x.t.iK:=fun e=>by
    rw[e,s1]at b1;rw[Option.some.inj b1,b3]at s3;omega
   obtain⟨jb,ob,jbl,pjb⟩:=h.index b1;obtain⟨js,os,jsl,pjs⟩:=h.index s1;have acz:∀id y,V.aW id=some y->(Lit.int .i64 id).wf=true:=fun id y hy=>by
    obtain⟨j,hj1,hj2,_⟩:=h.index hy;have e:=(xW hj1).2;have:=h.rJ j hj2;rw[e]at this;unfold dX at this;simp at this;exact WalkArith.wf_i64 (by omega)
   obtain⟨hl,hhl⟩:=mf (held (V.lg.tr.set k ⟨x.t,false⟩));rw[hhl]at f1;have nn:∀side id,0<=wQ (tq side id) hl:=fun side id=>KT (fun t ht=>QX (by have:=(f1.tw t ht).aK;omega))
   obtain⟨mf,TI⟩:∃mf:Int->Int,mf=fun j=>if j=x.t.iK then x.t.aK else 0:=⟨_,rfl⟩
   have e11:mf x.t.qC=Xe x.t x.t.qC-x.t.aK:=by
    rw[TI];simp[Xe,nbs]
   have e12:∀j,j≠x.t.qC->mf j=Xe x.t j:=fun j hj=>by
    rw[TI];simp only[Xe];rw[if_neg hj];omega
   have e21:(fun _=>(0:Int)) x.t.iK=mf x.t.iK-x.t.aK:=by rw[TI];simp
   have e22:∀j,j≠x.t.iK->(fun _=>(0:Int)) j=mf j:=fun j hj=>by rw[TI];simp[hj]
   have fb1:x.t.aK<=(V.om bx).filled:=by
    have h1:=f1.eq _ _ b1;have h2:=nn (V.om bx).side x.t.qC;simp[Xe,nbs]at h1;omega
   obtain⟨S1,hS1⟩:=kL (S.fresh.Sz k x);have TA:S1.l=S.l:=by rw[hS1];rfl
   have hps:=h.Rx;obtain⟨ol,hol,hov⟩:=h.ol;have xt:V.lg.tr[k]?=some ⟨x.t,true⟩:=by
    have e:x=⟨x.t,true⟩:=by cases x;simp only at hh;rw[hh]
    rw[<-e];exact hx
   have sJ:∀j,j<V.nb->∀y,y<2->∀a,ig ((V.B j).sl y)=some a->a<w.heap.size:=fun j hj y hy a ha=>((R.aY j hj).side y hy).lt ha
   refine (Zw bv bm bo k tb bx sx V n x again w R hT hk hx htb (by omega) (by omega) h0 b1 s1 (acz _ _ b1) (acz _ _ s1) (IC V)
    (fun V2 W=>(BuQ p V (S1.gm jb x.t.aK again) (N+1) hl mf V2/\(∀a,a<V2.nb->(V2.B a).places<=2 * (N:Int)+1)/\(S1.gm jb x.t.aK again).places<=2 * (N:Int)+1)/\Rh bv V (IC V) w.heap.size ol [(1,x.t)] V2 W/\((∀j y:Nat,(y:Int)≠(V.om bx).side->(V2.B j).sl y=(V.B j).sl y)/\∀y,(V2.om y).sym=(V.om y).sym/\(V2.om y).side=(V.om y).side)/\Zp (V.lg.iH k tb x.t) V2.lg 3)
    (fun V3 W=>BuQ p V ((S1.gm jb x.t.aK again).gm js x.t.aK again) (N+1) hl (fun _=>0) V3/\Rh bv V (IC V) w.heap.size ol [(1,x.t)] V3 W) (fun V2 W W' hq k=>⟨hq.1,hq.2.1.aB k,hq.2.2⟩) (by omega) hpl (fun w1 Hz Yw R1 hw1 cu1=>?_) (fun V2 w2 hQ2 hw2 R2 ho2 iJ TM=>?_)).mono ?_
   ·have hs1:dA p { V with lg:=V.lg.iH k tb x.t,lm:=Hz } S1 (N+1):=by rw[hS1];exact h.iH YL
    have hP:∀a,a<V.nb->(V.B a).places<=2 * (N:Int):=fun a ha=>(h.EU a ha).2
    have hPS:S1.places<=2 * (N:Int):=by rw[hS1];exact hps.2
    have K0:KK ol V:=⟨hov,by omega⟩;have K1:KK ol { V with lg:=V.lg.iH k tb x.t,lm:=Hz }:=⟨hov,by show (V.lg.tr.set k ⟨x.t,false⟩).length<_;rw[List.length_set];omega⟩;have bn1:Rh bv V (IC V) w.heap.size ol [(1,x.t)] { V with lg:=V.lg.iH k tb x.t,lm:=Hz } w1 :=
     ⟨[[(1,x.t)]],Yw,jO.one K0 (LV xt htb ⟨rfl,fun _ _=>rfl,fun _ _=>rfl,fun _ _=>rfl,fun _ _ _ _ _=>Iff.rfl,rfl,rfl,fun _ _=>rfl,rfl,rfl,cu1.tb⟩) K1,rfl,rfl,cu1,CO R cu1 rfl (fun _ _ _ _=>rfl)⟩
    have hq:=VG bv bm bo bx (N+1) V { V with lg:=V.lg.iH k tb x.t,lm:=Hz } p S1 x.t.qC x.t.aK (2 * (N:Int)) again hl (Xe x.t) mf w1 (IC V) w.heap.size ol [(1,x.t)] bn1 hw1 (fun i hi hs=>AV h.gw hi hs) (fun i t hi ht _ g hg=>sJ i hi t ht g hg) K1 R1 hs1 (by omega) ⟨hs1,f1,rfl,fun _=>rfl⟩ b1 hz.sz (j:=jb) (by rw[TA];exact jbl) pjb hP hPS (by push_cast;omega) q1 fb1 e11 e12 (by show 0<V.lg.na+1;omega) (by show 1+3<1000000000;omega);refine hq.mono (fun e w' hh=>⟨hh.1,hh.2.with (fun V2 h2 lk ho=>⟨⟨h2.1.1,h2.1.2.1,?_⟩,h2.2.1,h2.2.2,lk⟩)⟩);have hpl:(S1.gm jb x.t.aK again).places<=S1.places+1:=by
     unfold RS.gm;split
     ·show wrap64 (S1.places+1)<=_;rw[aT (by rw[hS1];show (-9223372036854775808:Int)<=S.places+1;omega) (by omega)];omega
     ·show S1.places<=_;omega
    omega
   ·obtain⟨⟨⟨g2,f2,n2,y2⟩,p2,pS2⟩,bn2,⟨sl2,st2⟩,wI⟩:=hQ2;have vl2:∀y,VL V2 y↔VL V y:=fun y=>by unfold VL;rw[ho2]
    have K2:KK ol V2:=⟨fun y hy=>hov y ((vl2 y).1 hy),by rw[wI.1];show (V.lg.tr.set k ⟨x.t,false⟩).length<_;rw[List.length_set];omega⟩;have bk2:V2.bk=V.bk:=by obtain⟨_,_,_,_,e,_⟩:=bn2;exact e
    have hbk2:∀i,i<V2.nb->(V2.om sx).sym=(V2.B i).sym->IC V sx=V2.bk i:=fun i hi hs=>by
     rw[bk2];exact AV h.gw (by omega) (by rw[<-(st2 sx).1,hs,y2 i])
    have adt:∀i t:Nat,i<V2.nb->t<2->(V2.om sx).side=(t:Int)->∀g,ig ((V2.B i).sl t)=some g->g<w.heap.size:=fun i t hi ht hs g hg=>by
     rw[(st2 sx).2,s3]at hs;rw[sl2 i t (by rw[b3];omega)]at hg;exact sJ i (by omega) t ht g hg
    have s2':V2.aW x.t.iK=some sx:=by rw[ho2];exact s1
    have fs:x.t.aK<=(V2.om sx).filled:=by
     have h1:=f2.eq _ _ s2';have h2:=nn (V2.om sx).side x.t.iK;rw[TI]at h1;simp only[if_pos]at h1;omega
    have hlen2:(S1.gm jb x.t.aK again).l.length=S.l.length:=by rw[(RS.uC S1 (i:=jb) (by rw[TA];exact jbl) x.t.aK again 0).2,TA]
    have hq:=VG bv bm bo sx (N+1) V V2 p (S1.gm jb x.t.aK again) x.t.iK x.t.aK (2 * (N:Int)+1) again hl mf (fun _=>0) w2 (IC V) w.heap.size ol [(1,x.t)] bn2 hw2 hbk2 adt K2 R2 g2 (by omega) ⟨g2,f2,n2,y2⟩ s2' (fun i hi=>by rw[y2 i];exact hz.sz i (by omega)) (j:=js) (by omega) pjs p2 pS2 (by push_cast;omega) q1 fs e21 e22 (by rw[iJ];omega) (by omega);exact hq.mono (fun e w' hh=>⟨hh.1,hh.2.with (fun V3 h3 lk ho=>⟨h3.1.1,h3.2.1⟩)⟩)
   ·rintro e w' ⟨rfl,V3,⟨⟨g3,f3,n3,y3⟩,Ts3,uI,u3,ef3,eb3,IU,sp3⟩,o3',R3,lk,kc,hF⟩;obtain⟨l1,l2,l3,l4,l5,l6,l7⟩:=lk;have ht:V3.lg.tr=V.lg.tr.set k ⟨x.t,false⟩:=l1;have hsx:=hz.sy x (List.mem_of_getElem? hx);have htl:∀(T:RS) (j:Nat) (q:Int) (b:Bool),(T.gm j q b).told=T.told:=fun T j q b=>by
     unfold RS.gm;split <;> rfl
    have htold:((S1.gm jb x.t.aK again).gm js x.t.aK again).told=[⟨0,2,x.t⟩]:=by
     rw[htl,htl,hS1];rfl
    have hl2:(S1.gm jb x.t.aK again).l.length=S.l.length:=by rw[(RS.uC S1 (i:=jb) (by rw[TA];exact jbl) x.t.aK again 0).2,TA]
    have adg:V3.no<=V.no+1:=by rw[g3.no,(RS.uC _ (i:=js) (by rw[hl2];exact jsl) x.t.aK again 0).2,hl2,h.no];exact Nat.le_succ _
    refine⟨0,rfl,by decide,.inr ⟨rfl,V3,R3,⟨_,p,g3,?_,⟨by rw[htold];show 1<=201;omega,⟨k,x,jb,js,hk,YL,by rw[<-hd];exact h0,ob,os,by rw[hS1]⟩,l7⟩,⟨fun i hi=>?_,?_,fun y hy=>?_,?_,hz.nm.set hx (y:=⟨x.t,false⟩) rfl ht,by rw[l3];exact hz.dy⟩,?_⟩,kc,hF⟩⟩
    ·rw[htold,l2];rfl
    ·rw[y3 i];exact hz.sz i (by omega)
    ·rw[ht,hhl];exact f3
    ·rw[ht]at hy;rcases List.mem_or_eq_of_mem_set hy with hy | hy
     ·exact hz.sy y hy
     ·rw[hy];exact hsx
    ·rw[l2];exact hz.tp.jD rfl hsx
    ·rw[htold];have hp:0<V3.lg.nt.length:=by
      rw[<-u3.len];cases Ts3 with
      | nil=>simp at ef3
      | cons a b=>simp
     have e1:(V.lg.iH k tb x.t).nt.length=1:=rfl;exact⟨DN.of R3 IU sp3 rfl u3 (by omega) hp (by omega) ef3,DU.plain o3' n3 (fun i _=>y3 i) (by rw[ht];exact mG.nI (B:=[]) mG.refl xt) (fun z=>by rw[ht,l2];exact Told.nI z hx hh rfl rfl rfl) adg⟩
theorem BI(bv bm bo N:Nat)(V:aS)(p:Nat->Nat)(S:RS)(w:World)(R:dS w bv bm bo V)(hT:kP w)(h:dA p V S N)(hN:N<2900000)(hz:vG V)(hpl:Hid (V.lg.pl=dL.close.line)) :
 CT 41 #[PP bv] w fun e w'=>e=.returned (.tuple #[])/\Ic bv bm bo V S N .close V7 Lj w w':=by
 have YC:=h.DJ;have hN3:=h.zX;have yu:=h.yu;obtain⟨ol,hol,hov⟩:=h.ol;have hM:mN N<=1000000000000000:=by unfold mN;omega
 refine (W9 bv bm bo V.no V (mN N) w (IC V) (fun i hi y hy l hl=>uH h.gw hi hy hl) (fun i x hi hx hs=>AV h.gw hi hs) R h.gw rfl hz.sz (by unfold mN;omega) h.gV (by omega) (by omega) hpl).mono ?_;rintro e w' ⟨rfl,hcl⟩;have hdy:=hz.dy;obtain⟨V',R',⟨c,did⟩,kc,hF⟩:=PY hM R h.gw hov (by omega) (by omega) hdy.1 hdy.2 (fun i x hi hx hs=>AV h.gw hi hs) hcl;refine⟨rfl,V',R',⟨_,p,h.closed hN c,?_,⟨by show 1<=201;omega,rfl,c.js⟩,⟨fun i hi=>?_,?_,fun x hx=>?_,?_,fun k x hx=>hz.nm k x (by rw[<-c.tr];exact hx),by rw[c.day];unfold wrap64;omega⟩,did,DU.plain c.aW c.nb (fun i _=>c.lL i) (by rw[c.tr];exact mG.refl) (fun z=>by rw[c.tr,c.tp];exact Told.close z rfl rfl) (by rw[c.no];exact Nat.le_succ _)⟩,kc,hF⟩
 ·rw[c.tp,h.day];rfl
 ·rw[c.lL i];exact hz.sz i (by rw[<-c.nb];exact hi)
 ·rw[c.aW,c.tr];exact hz.fl.lQ c.dN
 ·rw[c.tr]at hx;exact hz.sy x hx
 ·rw[c.tp];exact hz.tp.jD rfl (by show 0<=100000;omega)
def kX(H:List (mY × RS)):RS:=(H.getLast?.map Prod.snd).getD RS.none
theorem BL(H:List (mY × RS))(n:mY)(S:RS):kX (H++[(n,S)])=S:=by simp[kX]
def KP(M:Nat)(H:List (mY × RS))(V:aS):Prop :=
 ∃(V0:aS) (p:Nat->Nat) (N:Nat),dA p V0 (kX H) N/\N<=M/\vG V0/\dQ V0 V/\(kX H).l.length<=M /\
  ∀H' n S,H=H'++[(n,S)]->mG (kX H').t n.Ts.flatten S.t/\(n.Ts.flatten.length<=201/\n.Ts.flatten.length=(uh (kX H').t S.told).length)/\∀q∈n.Ts.flatten,q.2.sym.size<=100000
theorem KP.Eb{M:Nat}(H:List (mY × RS))(V V':aS)(h:KP M H V)(l:dQ V V'):KP M H V':=by
 obtain⟨V0,p,N,h1,h2,h3,h4,h5⟩:=h;exact⟨V0,p,N,h1,h2,h3,h4.trans l,h5⟩
theorem KP.mono{M M':Nat}(hM:M<=M')(H:List (mY × RS))(V:aS)(h:KP M H V):KP M' H V:=by
 obtain⟨V0,p,N,h1,h2,h3,h4,h5,h6⟩:=h;exact⟨V0,p,N,h1,by omega,h3,h4,by omega,h6⟩
structure Kx where
 bv:Nat
 bm:Nat
 bo:Nat
 V:aS
 p:Nat->Nat
 N:Nat
 H:List (mY × RS)
def Kx.S(x:Kx):RS:=kX x.H
structure jq(w:World)(x:Kx):Prop where
 lG:dS w x.bv x.bm x.bo x.V
 oz:dA x.p x.V x.S x.N
 sz:vG x.V
 XR:pV (KP x.N) x.H x.V
 mem:AB x.bv x.bm x.bo x.V x.H w
 told:Told x.V.lg.tr x.V.lg.tp
 no:x.S.l.length<=x.N
def KF(x:Kx)(b:Nat):Prop:=dO x.bv x.bm x.bo x.V b\/Bx x.H b
theorem jq.lt{w:World}{x:Kx}(h:jq w x){b:Nat}(hb:KF x b):b<w.heap.size:=by
 rcases hb with hb | hb
 ·exact h.lG.Xf hb
 ·exact h.mem.lt hb
theorem jq.aC{w w':World}{x:Kx}(h:jq w x){K:Nat->Prop}(k:aj K w w')(hK:∀b,KF x b->¬K b):jq w' x :=
 ⟨h.lG.abU k (fun b hb=>hK b (.inl hb)),h.oz,h.sz,h.XR,h.mem.aC k (fun b hb=>hK b (.inr hb)),h.told,h.no⟩
theorem jq.aB{w w':World}{x:Kx}(h:jq w x)(k:aj aJ w w'):jq w' x:=h.aC k (fun _ _ z=>z)
theorem jq.off{w:World}{x:Kx}(h:jq w x){b:Nat}{c:Array Value}{t:TypeId}(hb:aA w b c t)(h1:t≠100/\t≠158/\t≠114/\t≠116/\t≠103/\t≠62/\t≠105/\t≠109/\t≠1/\t≠5/\t≠54/\t≠111/\t≠3/\t≠35/\t≠52/\t≠9/\t≠56):¬KF x b:=by
 obtain⟨a1,a2,a3,a4,a5,a6,a7,a8,a9,a10,b1,b2,b3,b4,b5,b6,b7⟩:=h1;rintro (hf | ⟨y,hy,cc,hc,hcb⟩)
 ·exact h.lG.kU hb a1 a2 a3 a4 a5 a6 a7 a8 ⟨a9,a10⟩ hf
 ·have f:=h.mem.fns y hy;obtain⟨i,hi,rfl⟩:=List.mem_iff_getElem.1 hc;have hi':i<y.1.ds.length:=by rw[<-f.len];exact hi
  obtain⟨cs,t',ht,hx⟩:=(f.nH i _ _ (List.getElem?_eq_getElem hi') (List.getElem?_eq_getElem hi)).gK hcb;have:=yw ht hb;subst this;rcases hx with e | e | e | e | e | e | e | e | ⟨_,e⟩ <;> contradiction
def En(x:Kx)(a:dL)(x':Kx):Prop:=AR x.S a x'.S/\x'.V.lg.tp=kZ x.V.lg.tp x'.S.told/\x'.V.lg.js=x.V.lg.js++[a.line]/\∃n,x'.H=x.H++[(n,x'.S)]
def Ig(x x':Kx):Prop:=(∃Z,x'.V.lg.tp=x.V.lg.tp++Z)/\(x.H.length<x'.H.length->∃a,En x a x'/\jE a)/\(x'.H.length<x.H.length->x'.V.lg.js=x.V.lg.js++[⟨#[117,110,100,111]⟩]/\x.V.lg.tp.length<=x'.V.lg.tp.length)/\x'.bm=x.bm/\x'.bo=x.bo
theorem Ig.refl(x:Kx):Ig x x:=⟨⟨[],by simp⟩,fun h=>absurd h (Nat.lt_irrefl _),fun h=>absurd h (Nat.lt_irrefl _),rfl,rfl⟩
def aS.gG(V:aS)(l:ByteArray):aS:={ V with lg:={ V.lg with pl:=l } }
def Kx.gG(x:Kx)(l:ByteArray):Kx:={ x with V:=x.V.gG l }
theorem wH(V:aS)(l:ByteArray):dQ V (V.gG l):=⟨rfl,fun _ _=>rfl,fun _ _=>rfl,fun _ _=>rfl,fun _ _ _ _ _=>Iff.rfl,rfl,rfl,fun _ _=>rfl,rfl,rfl,rfl⟩
theorem jq.gG{w:World}{x:Kx}(h:jq w x)(l:ByteArray):jq w (x.gG l):=by
 have R:=h.lG;have hl:bG w x.bv x.bm x.bo { x.V.lg with pl:=l } x.V.lm:=⟨R.aP.dC,R.aP.aP.jJ,R.aP.aP.iO,R.aP.aP.len,R.aP.aP.aF,R.aP.aP.nodup,R.aP.aP.act,R.aP.aP.kV,R.aP.aP.jb⟩;exact⟨R.jM hl (aj.refl _ w),(wH x.V l).ack h.oz.gw.hs h.oz (Nat.le_refl _) h.oz.DJ h.oz.zX,h.sz.Eb (wH x.V l) h.sz.tp,h.XR.Eb (fun H V V'=>KP.Eb H V V') (wH x.V l),⟨fun y hy=>(h.mem.fns y hy).aC (aj.refl _ w) (fun b hb=>.inl hb),h.mem.acs,h.mem.nt⟩,h.told,h.no⟩
def KN(x:Kx)(w w':World)(Q:Kx->Prop):Prop:=∃x',jq w' x'/\aj (KF x) w w'/\(∀b,KF x' b->KF x b\/w.heap.size<=b)/\x'.bv=x.bv/\x'.N<=x.N+1/\Ig x x'/\Q x'
structure Kn(S:RS)(n:Nat):Prop where
 rJ:∀id,(iU S.l id).isSome=true↔(1<=id/\id<=(n:Int))
 sA:jI S.sy Go.Proofs.YtigaphnafnpfnaaGreatDoor.sA=true
 sG:jI S.sy Go.Proofs.YtigaphnafnpfnaaGreatDoor.sG=true
theorem dA.MH{p:Nat->Nat}{V:aS}{S:RS}{N:Nat}(h:dA p V S N)(id:Int):(V.aW id).isSome=(iU S.l id).isSome:=by
 rw[h.found];cases iU S.l id <;> rfl
theorem EY:∀(t R:List Rc),∃Z,kZ R t=R++Z
 | [],R=>⟨[],by simp[kZ]⟩
 | r :: t,R=>by
   obtain⟨Z,hZ⟩:=EY t (R++[{ r with num:=(R.length:Int)+1 }]);exact⟨{ r with num:=(R.length:Int)+1 } :: Z,by show kZ _ t=_;rw[hZ];simp⟩
theorem zL:∀(B:List (Int × Tr)) (R:List Rc),∃Z,qx R B=R++Z
 | [],R=>⟨[],by simp[qx]⟩
 | b :: B,R=>by
   obtain⟨Z,hZ⟩:=zL B (R++[⟨(R.length:Int)+1,b.1,b.2⟩]);exact⟨⟨(R.length:Int)+1,b.1,b.2⟩ :: Z,by show qx (R++[_]) B=_;rw[hZ];simp⟩
theorem Ug{x:Kx}{a:dL}{new:Int->Prop}{Am:List ByteArray}{w w1:World}(h:jq w x)(hfa:∀S',AR x.S a S'->jE a)(hpl:x.V.lg.pl=a.line)(hO:Ic x.bv x.bm x.bo x.V x.S x.N a new Am w w1) :
 KN x w w1 (fun x'=>((∃n S',x'.H=x.H++[(n,S')])/\(∀id,(iU x'.S.l id).isSome=true↔((iU x.S.l id).isSome=true\/new id))/\x'.S.sy=x.S.sy++Am)/\En x a x'):=by
 obtain⟨V',R',⟨S',p',hs',htp,⟨htold,har,hjs⟩,hsz,⟨nt,ol,und,hol,hds,hB,hac,hnt,fns,hlo⟩,ak⟩,k,hf⟩:=hO;have m1:AB x.bv x.bm x.bo V' (x.H++[(nt,S')]) w1:=h.mem.did (B:=[]) k hf hac hnt fns;have eS:kX (x.H++[(nt,S')])=S':=BL _ _ _;obtain⟨Z,hZ⟩:=EY S'.told x.V.lg.tp;have hln:S'.l.length<=x.N+1:=by have:=h.no;have:=ak.no;have:=h.oz.no;have:=hs'.no;omega
 have hst:En x a ⟨x.bv,x.bm,x.bo,V',p',x.N+1,x.H++[(nt,S')]⟩:=⟨by show AR x.S a (kX _);rw[eS];exact har,by show V'.lg.tp=kZ _ (kX _).told;rw[eS];exact htp,by rw[<-hpl];exact hjs,nt,by show _=_++[(nt,kX _)];rw[eS]⟩;refine⟨⟨x.bv,x.bm,x.bo,V',p',x.N+1,x.H++[(nt,S')]⟩,?_,k.mono (fun b hb=>.inl hb),?_,rfl,Nat.le_refl _,⟨⟨Z,by rw[<-hZ];exact htp⟩,fun _=>⟨a,hst,hfa _ hst.1⟩,fun hl=>by have:(x.H++[(nt,S')]).length<x.H.length:=hl;rw[List.length_append]at this;omega,rfl,rfl⟩,⟨⟨nt,S',rfl⟩,fun id=>?_,?_⟩,hst⟩
 ·refine⟨R',by show dA p' V' (kX _) _;rw[eS];exact hs',hsz,?_,m1,ak.told h.told,by show (kX _).l.length<=_;rw[eS];exact hln⟩;refine pV.jD (h.XR.mono (KP.mono (Nat.le_add_right _ 1))) und (dQ.refl _) hol hds ⟨V',p',x.N+1,by rw[eS];exact hs',Nat.le_refl _,hsz,dQ.refl _,by rw[eS];exact hln,fun H' n' a' e=>?_⟩;obtain⟨e1,e2⟩:=List.append_inj' e rfl;simp only[List.cons.injEq,Prod.mk.injEq,and_true]at e2;obtain⟨rfl,rfl⟩:=e2;subst e1;refine⟨?_,?_,?_⟩
  ·have:=ak.turn;rw[<-hB,h.oz.tr,hs'.tr]at this;exact this
  ·rw[hB];exact⟨by have:=Xo x.S.t S'.told;omega,rfl⟩
  ·rw[hB];exact Ud (fun y hy=>h.sz.sy y (by rw[h.oz.tr];exact hy)) (VK hsz.tp htp)
 ·intro b hb;rcases hb with hb | hb
  ·rcases hf b hb with hx | hx
   ·exact .inl (.inl hx)
   ·exact .inr hx
  ·obtain⟨y,hy,c,hc,hcb⟩:=hb;rcases List.mem_append.1 hy with hy | hy
   ·exact .inl (.inr ⟨y,hy,c,hc,hcb⟩)
   ·rw[List.mem_singleton.1 hy]at hc;exact .inr (hlo c hc b hcb)
 ·show (iU (kX _).l id).isSome=true↔_;rw[eS,<-hs'.MH,<-h.oz.MH];exact ak.aW id
 ·show (kX _).sy=_;rw[eS];have l1:S'.sy.length=x.S.sy.length+Am.length:=by rw[<-hs'.nb,<-h.oz.nb];exact ak.nb
  have e1:=h.oz.nb;have e2:=ak.nb;refine List.ext_getElem? (fun i=>?_);by_cases hi:i<x.S.sy.length
  ·rw[List.getElem?_append_left hi,hs'.sym i (by omega),h.oz.sym i (by omega),ak.sy i (by omega)]
  ·rw[List.getElem?_append_right (by omega)];cases hj:Am[i-x.S.sy.length]? with
   | none =>
     have:=List.getElem?_eq_none_iff.1 hj;exact List.getElem?_eq_none (by omega)
   | some s =>
     have h3:=(List.getElem?_eq_some_iff.1 hj).1;have h4:=ak.ns _ _ hj;rw[show x.V.nb+(i-x.S.sy.length)=i by omega]at h4;rw[hs'.sym i (by omega),h4]
theorem abS{x:Kx}{a:dL}{new:Int->Prop}{Am:List ByteArray}{w w1:World}(h:jq w x)(hfa:∀S',AR x.S a S'->jE a)(hpl:x.V.lg.pl=a.line)(hO:Ic x.bv x.bm x.bo x.V x.S x.N a new Am w w1) :
 KN x w w1 (fun x'=>(∃n S',x'.H=x.H++[(n,S')])/\(∀id,(iU x'.S.l id).isSome=true↔((iU x.S.l id).isSome=true\/new id))/\x'.S.sy=x.S.sy++Am):=by
 obtain⟨x',ok,k,hf,e1,e2,e3,q,_⟩:=Ug h hfa hpl hO;exact⟨x',ok,k,hf,e1,e2,e3,q⟩
theorem jq.wO{w:World}{x:Kx}(h:jq w x)(l:ByteArray):dS w x.bv x.bm x.bo (x.V.gG l):=(h.gG l).lG
theorem jq.wP{w:World}{x:Kx}(h:jq w x)(l:ByteArray):dA x.p (x.V.gG l) x.S x.N:=(h.gG l).oz
theorem jq.NY{w:World}{x:Kx}(h:jq w x)(l:ByteArray):vG (x.V.gG l):=(h.gG l).sz
theorem Xp{x:Kx}{a:dL}{new:Int->Prop}{Am:List ByteArray}{w w1:World}(h:jq w x)(hfa:∀S',AR x.S a S'->jE a)(hO:Ic x.bv x.bm x.bo (x.V.gG a.line) x.S x.N a new Am w w1) :
 KN x w w1 (fun x'=>((∃n S',x'.H=x.H++[(n,S')])/\(∀id,(iU x'.S.l id).isSome=true↔((iU x.S.l id).isSome=true\/new id))/\x'.S.sy=x.S.sy++Am)/\En x a x') :=
 by have hk:=Ug (x:=x.gG a.line) (h.gG a.line) hfa rfl hO;exact hk
theorem MP{x:Kx}{a:dL}{new:Int->Prop}{Am:List ByteArray}{w w1:World}(h:jq w x)(hfa:∀S',AR x.S a S'->jE a)(hO:Ic x.bv x.bm x.bo (x.V.gG a.line) x.S x.N a new Am w w1) :
 KN x w w1 (fun x'=>(∃n S',x'.H=x.H++[(n,S')])/\(∀id,(iU x'.S.l id).isSome=true↔((iU x.S.l id).isSome=true\/new id))/\x'.S.sy=x.S.sy++Am) :=
 by have hk:=abS (x:=x.gG a.line) (h.gG a.line) hfa rfl hO;exact hk
theorem xN{α:Type}(l:List α):l=[]\/∃l' a,l=l'++[a]:=by
 rcases List.eq_nil_or_concat l with h | ⟨l',a,h⟩
 ·exact .inl h
 ·exact .inr ⟨l',a,by rw[h,List.concat_eq_append]⟩
theorem aao{x:Kx}{H:List (mY × RS)}{n:mY}{S:RS}{w:World}(h:jq w x)(hN:x.N<2000000)(h0:x.H=H++[(n,S)]) :
 CT 23 #[PP x.bv] w fun e w1=>e=.returned (II 0)/\KN x w w1 (fun x'=>x'.H=H/\x'.V.lg.tp.length=x.V.lg.tp.length+(uh (kX H).t S.told).length):=by
 have hm:=h.mem;have hp:=h.XR;rw[h0]at hm hp;obtain⟨A,y,e1,e2,e3⟩:∃A y,x.V.lm.ac=A++[y]/\y.2=n.cl/\A.map Prod.snd=H.map (fun h=>h.1.cl):=by
  have e:=hm.acs;rw[List.map_append]at e;rcases xN x.V.lm.ac with h0 | ⟨A,y,h0⟩
  ·rw[h0]at e;simp at e
  ·rw[h0,List.map_append]at e;obtain⟨e1,e2⟩:=List.append_inj' e rfl;simp at e2;exact⟨A,y,h0,e2,e1⟩
 obtain⟨V0,V1,l,p0,u,l1,hll,hd0,hd1⟩:=hp.last;have DJ:=h.oz.DJ;have zX:=h.oz.zX;obtain⟨QB,abA⟩:=kL ((H.getLast?.map (fun h=>h.1.ds)).getD []);have hnt:∀z,A.getLast?=some z->z.2.length=QB.length:=fun z hz=>by
  have e4:=congrArg List.getLast? e3;rw[List.getLast?_map,List.getLast?_map,hz]at e4;cases hg:H.getLast? with
  | none=>rw[hg]at e4;simp at e4
  | some g =>
    rw[hg]at e4;simp at e4;rw[abA,hg,e4];show g.1.cl.length=g.1.ds.length;exact (hm.fns g (List.mem_append_left _ (List.mem_of_getLast? hg))).len
 refine (VS x.bv x.bm x.bo x.V V0 V1 n l A y QB w h.lG h.oz.gw.hs e1 e2 (hm.fns (n,S) (by simp)) u l1 hll hd0 hd1 hnt (by omega) (by omega)).mono ?_;rintro e w1 ⟨rfl,V',R',hs',l',htp,hna,⟨hud,hjs⟩,TM,hac,k,hf⟩;have sub:∀b,Bx H b->Bx x.H b:=fun b ⟨y,hy,c,hc,hcb⟩=>⟨y,by rw[h0];exact List.mem_append_left _ hy,c,hc,hcb⟩
 have acU:V'.lm.ac.map Prod.snd=H.map (fun h=>h.1.cl):=by rw[<-e3];exact hac
 have m1:AB x.bv x.bm x.bo V' H w1:=⟨fun y hy=>(h.mem.fns y (by rw[h0];exact List.mem_append_left _ hy)).aC k hf,acU,fun y hy=>by rw[TM,abA,hy];rfl⟩;obtain⟨V00,p0',N0,adz,hN0,sz0,l0,hln,_⟩:=p0.abp;have lk:=l0.trans l';obtain⟨_,_,_,_,_,_,_,_,hrel⟩:=hp.abp;obtain⟨htu,⟨hTl,hTe⟩,hTs⟩:=hrel H n S rfl;have OA:V'.lg.tp=qx x.V.lg.tp n.Ts.flatten.reverse:=by rw[htp,Ht]
 have etl:V'.lg.tp.length=x.V.lg.tp.length+n.Ts.flatten.length:=by rw[OA,CJ,List.length_reverse]
 have hsz:vG V':=sz0.Eb lk (by
  rw[OA];exact pY.nC h.sz.tp (fun q hq=>hTs q (List.mem_reverse.1 hq)))
 have eX:dA p0' V' (kX H) (x.N+1):=lk.ack hs' adz (by omega) (by omega) (by omega);obtain⟨Z,hZ⟩:=zL n.Ts.flatten.reverse x.V.lg.tp;refine⟨rfl,⟨x.bv,x.bm,x.bo,V',p0',x.N+1,H⟩,⟨R',eX,hsz,(p0.Eb (fun H V V'=>KP.Eb H V V') l').mono (KP.mono (Nat.le_add_right _ 1)),m1,?_,Nat.le_succ_of_le hln⟩,k.mono (fun b hb=>.inl hb),fun b hb=>?_,rfl,Nat.le_refl _,⟨⟨Z,by rw[<-hZ];exact OA⟩,fun hl=>by have:x.H.length<H.length:=hl;rw[h0,List.length_append]at this;omega,fun _=>⟨hjs,by show _<=V'.lg.tp.length;omega⟩,rfl,rfl⟩,rfl,by rw[<-hTe];exact etl⟩
 ·show Told V'.lg.tr V'.lg.tp;rw[OA,eX.tr];refine htu.nH ?_;have:=h.told;rw[h.oz.tr]at this;rw[show S=x.S by unfold Kx.S;rw[h0,BL]];exact this
 ·rcases hb with hb | hb
  ·rcases hf b hb with hx | hx
   ·exact .inl (.inl hx)
   ·exact .inr hx
  ·exact .inl (.inr (sub b hb))
theorem Dc.Jo{D:Nat}{ao:Option Addr}{len cap:Nat}{zs:Nat->Int}{base:Nat}{w w':World}(h:Dc D ao len cap zs base w){S:Nat->Prop}(k:aj S w w')(h1:¬S D)(h2:0<len->∀a,ao=some a->¬S a.block)(h3:¬S lh):Dc D ao len cap zs base w':=by
 obtain⟨a,ha,hb⟩:=h.xx;exact⟨⟨a,ha,k.aF hb h1⟩,h.code.at k h2,h.old,h.bD,h.Wu.aC k h3,h.bT⟩
structure Pk(D:Nat)(ao:Option Addr)(len cap:Nat)(zs:Nat->Int)(base:Nat)(Z:Nat->Prop)(w0:World)(P:Nat)(x:Kx)(n:Nat)(acts:Int)(w:World):Prop where
 ok:jq w x
 kn:Kn x.S n
 na:acts=(x.H.length:Int)
 gX:aA w P #[PP x.bv,II n,II acts] 37
 dc:Dc D ao len cap zs base w
 kU:∀b,KF x b->¬Z b/\(0<len->∀a,ao=some a->a.block≠b)
 pP:¬Z P/\(0<len->∀a,ao=some a->a.block≠P)
 zD:¬Z D
 zl:∀b,Z b->b<w0.heap.size
 tb:Z lh
 fr:aj (fun b=>¬Z b) w0 w
section
variable {D : Nat} {ao : Option Addr} {len cap : Nat} {zs : Nat -> Int} {base : Nat} {Z : Nat -> Prop} {w0 : World} {P : Nat} {x : Kx} {n : Nat} {acts : Int} {w w' : World}
theorem Pk.nfD(h:Pk D ao len cap zs base Z w0 P x n acts w):¬KF x D:=by
 obtain⟨a,_,hb⟩:=h.dc.xx;exact h.ok.off hb (by decide)
theorem Pk.nfP(h:Pk D ao len cap zs base Z w0 P x n acts w):¬KF x P:=h.ok.off h.gX (by decide)
theorem Pk.neD(h:Pk D ao len cap zs base Z w0 P x n acts w):P≠D:=by
 obtain⟨a,_,hb⟩:=h.dc.xx;exact aA.ne h.gX hb (by decide)
theorem Pk.cb(h:Pk D ao len cap zs base Z w0 P x n acts w)(hl:0<len)(a:Addr)(e:ao=some a):a.block<w.heap.size:=by
 have:=h.dc.old hl a e;obtain⟨_,_,hb⟩:=h.dc.xx;have:=hb.lt;have:=h.dc.bD;omega
theorem Pk.nz(h:Pk D ao len cap zs base Z w0 P x n acts w){b:Nat}(hb:w.heap.size<=b):¬Z b:=fun hz=>by
 have:=h.zl b hz;have:=h.fr.size;omega
theorem Pk.bJ(h:Pk D ao len cap zs base Z w0 P x n acts w)(k:aj aJ w w'):Pk D ao len cap zs base Z w0 P x n acts w' :=
 ⟨h.ok.aB k,h.kn,h.na,k.aF h.gX aU,h.dc.Jn k,h.kU,h.pP,h.zD,h.zl,h.tb,h.fr.trans k.bI⟩
theorem Pk.qw(h:Pk D ao len cap zs base Z w0 P x n acts w)(hd:Dc D ao len cap zs base w')(k:aj (fun x=>x=D) w w'):Pk D ao len cap zs base Z w0 P x n acts w' :=
 ⟨h.ok.aC k (fun b hb e=>h.nfD (by rw[<-e];exact hb)),h.kn,h.na,k.aF h.gX h.neD,hd,h.kU,h.pP,h.zD,h.zl,h.tb,h.fr.trans (k.mono (fun x e=>by rw[e];exact h.zD))⟩
theorem Pk.rt(h:Pk D ao len cap zs base Z w0 P x n acts w):jq w x/\kP w:=⟨h.ok,h.dc.Wu⟩
theorem Pk.other(h:Pk D ao len cap zs base Z w0 P x n acts w){q:Nat}(k:aj (fun y=>y=q) w w')(h1:¬KF x q)(h2:q≠P)(h3:q≠D)(h4:0<len->∀a,ao=some a->a.block≠q)(h5:¬Z q):Pk D ao len cap zs base Z w0 P x n acts w' :=
 ⟨h.ok.aC k (fun b hb e=>h1 (by rw[<-e];exact hb)),h.kn,h.na,k.aF h.gX (fun e=>h2 e.symm),h.dc.Jo k (fun e=>h3 e.symm) h4 (fun e=>h5 (by rw[<-e];exact h.tb)),h.kU,h.pP,h.zD,h.zl,h.tb,h.fr.trans (k.mono (fun y e=>by rw[e];exact h5))⟩
theorem Pk.next{Q:Kx->Prop}(h:Pk D ao len cap zs base Z w0 P x n acts w)(hn:KN x w w' Q) :
 ∃x',jq w' x'/\aA w' P #[PP x.bv,II n,II acts] 37/\Dc D ao len cap zs base w'/\(∀b,KF x' b->¬Z b/\(0<len->∀a,ao=some a->a.block≠b))/\aj (fun b=>¬Z b) w0 w'/\x'.bv=x.bv/\x'.N<=x.N+1/\Ig x x'/\Q x':=by
 obtain⟨x',ok',k,f,h1,h2,h3,q⟩:=hn;refine⟨x',ok',k.aF h.gX h.nfP,h.dc.Jo k h.nfD (fun hl a e hf=>(h.kU _ hf).2 hl a e rfl) (fun hf=>(h.kU _ hf).1 h.tb),fun b hb=>?_,h.fr.trans (k.mono (fun b hb=>(h.kU b hb).1)),h1,h2,h3,q⟩;rcases f b hb with hx | hx
 ·exact h.kU b hx
 ·exact⟨h.nz hx,fun hl a e=>by have:=h.cb hl a e;omega⟩
theorem Pk.count{x':Kx}{n':Nat}{xk:Int}{w1 w2:World}(h:Pk D ao len cap zs base Z w0 P x n acts w)(ok:jq w1 x')(kn:Kn x'.S n')(na:xk=(x'.H.length:Int))(hp:∃a b,aA w1 P #[PP x'.bv,a,b] 37)(hd:Dc D ao len cap zs base w1)(hf:∀b,KF x' b->¬Z b/\(0<len->∀a,ao=some a->a.block≠b))(hb:aj (fun b=>¬Z b) w0 w1)
 (hp':aA w2 P #[PP x'.bv,II n',II xk] 37) (k:aj (fun x=>x=P) w1 w2):Pk D ao len cap zs base Z w0 P x' n' xk w2:=by
 obtain⟨a,b,hpb⟩:=hp;have nf:¬KF x' P:=ok.off hpb (by decide);obtain⟨c,hc,hdb⟩:=hd.xx;exact⟨ok.aC k (fun b hb e=>nf (by rw[<-e];exact hb)),kn,na,hp',hd.Jo k (fun e=>aA.ne hdb hpb (by decide) e) h.pP.2 (fun e=>h.pP.1 (by rw[<-e];exact h.tb)),hf,h.pP,h.zD,h.zl,h.tb,hb.trans (k.mono (fun x e=>by rw[e];exact h.pP.1))⟩
theorem jq.hlen(h:jq w x)(hN:x.N<=1000000):x.H.length<=x.N:=by
 have h1:=h.mem.acs;have h2:=h.oz.zX;have h3:=h.lG.aP.aP.act.len;have h4:=congrArg List.length h1;rw[List.length_map,List.length_map]at h4;omega
end
def yF(x:Kx)(n:Nat)(o:iT)(w:World)(f r c a m E:Int)(w':World):Prop :=
 (E=0/\KN x w w' (fun x'=>(∃nt S',x'.H=x.H++[(nt,S')])/\Kn x'.S (n+1))/\f+r+c=o.aK/\0<=f/\0<=r/\0<=c/\(m=0↔f=0))\/(E=9/\o.kind=3/\aj aJ w w')\/(E=8/\o.kind=4/\aj aJ w w')
theorem yF.jV{x:Kx}{n:Nat}{o:iT}{w w':World}{f r c a m E:Int}(h:yF x n o w f r c a m E w'):aj (KF x) w w':=by
 rcases h with⟨_,⟨x',_,k,_⟩,_⟩ | ⟨_,_,k⟩ | ⟨_,_,k⟩
 ·exact k
 ·exact k.bI
 ·exact k.bI
theorem Ho(i:Nat):Ff (yX i):=by
 unfold yX;split
 ·exact⟨by decide,by decide,by decide,by decide⟩
 ·exact⟨by decide,by decide,by decide,by decide⟩
theorem MB{o:iT}{n i t:Nat}(ho:Oj o n i t)(hi:i<2)(ht:t<2)(hn:n<1000):jE (.enter o):=by
 have h7:=ho.af;have h8:=ho.own;have h9:=ho.kind;have h10:=ho.aK;refine⟨⟨by rw[ho.id];omega,by rw[ho.id];omega⟩,⟨by omega,by omega⟩,by rw[ho.sym];exact Ho i,⟨by rw[ho.side];omega,by rw[ho.side];omega⟩,⟨by omega,by omega⟩,?_,⟨by omega,by omega⟩⟩;unfold iV at h7;unfold o9;split at h7 <;> simp[dX]at h7 <;> omega
theorem Xq{x:Kx}{n i t:Nat}{o:iT}{w:World}(h:jq w x)(hT:kP w)(kn:Kn x.S n)(hN:x.N<200)(hn:n<1000)(hi:i<2)(ht:t<2)(ho:Oj o n i t) :
 CT 64 #[PP x.bv,o.val] w fun e w'=>∃f r c a m E,e=.returned (.tuple #[.agg #[II f,II r,II c,II a,II m],II E])/\yF x n o w f r c a m E w':=by
 have hsz:o.sym.size<=100:=by rw[ho.sym];unfold yX;split <;> decide
 have hpr:iI o.af:=oQ (by have h7:=ho.af;unfold iV at h7;split at h7 <;> simp[dX]at h7 <;> omega);have hE:sD x.S o=0\/(sD x.S o=9/\o.kind=3)\/(sD x.S o=8/\o.kind=4):=by
  have hr:=h.oz.aaA o;have hid:dX o.id=true:=by rw[ho.id];unfold dX;simp;omega
  have hfree:(x.V.aW o.id).isSome=false:=by
   cases hx:(x.V.aW o.id).isSome
   ·rfl
   ·rw[h.oz.MH]at hx;have:=(kn.rJ o.id).1 hx;rw[ho.id]at this;omega
  have hlist:jI x.S.sy o.sym=true:=by
   rw[ho.sym];unfold yX;split
   ·exact kn.sA
   ·exact kn.sG
  have hno:decide (200<=x.V.no)=false:=by have:=h.no;have:=h.oz.no;simp;omega
  have h3:oW o.aG=true:=by have:=ho.own;unfold oW;simp;omega
  have h4:ni o.side=true:=by
   rw[ho.side];have:t=0\/t=1:=by omega
   rcases this with rfl | rfl <;> rfl
  have h5:pK o.kind=true:=by have:=ho.kind;unfold pK;simp;omega
  have h6:dX o.aK=true:=by have:=ho.aK;unfold dX;simp;omega
  rw[hr,hfree,hlist,hno];rcases pI o false true false (gZ x.S.l o).isSome (decide (um x.S.l o x.S.l.length<o.aK)) with⟨g,e⟩ | ⟨_,g,e⟩ | ⟨g1,g2,⟨g,e⟩ | ⟨_,g,e⟩ | ⟨g3,g4,⟨g,e⟩ | ⟨g5,⟨g,e⟩ | ⟨_,g,e⟩ | ⟨g6,g7,⟨g,e⟩ | ⟨_,g,e⟩ | ⟨g8,g9,e⟩⟩⟩⟩⟩
  ·rw[hid]at g;exact absurd g (by decide)
  ·exact absurd g (by decide)
  ·rw[h3]at g;exact absurd g (by decide)
  ·rw[h4]at g;exact absurd g (by decide)
  ·rw[h5]at g;exact absurd g (by decide)
  ·rw[h6]at g;exact absurd g (by decide)
  ·rw[ho.af]at g;exact absurd g (by decide)
  ·exact absurd g (by decide)
  ·exact absurd g (by decide)
  ·rw[e];split
   ·rename_i hh;exact .inr (.inr ⟨rfl,hh.1⟩)
   ·split
    ·rename_i hh;exact .inr (.inl ⟨rfl,hh.1⟩)
    ·exact .inl rfl
 refine (BJ x.bv x.bm x.bo x.N (x.V.gG (dL.enter o).line) x.p x.S o w (h.wO _) hT (h.wP _) (by omega) (h.NY _) (by omega) (WalkArith.wf_i64 (by rw[ho.id];omega)) (oQ (by have:=ho.own;omega)) (oQ (by have:=ho.kind;omega)) hpr (au rfl)).mono ?_;rintro e w' ⟨f,r,c,a,m,rfl,hs,hO⟩;refine⟨f,r,c,a,m,_,rfl,?_⟩;rcases hO with⟨hne,k,_⟩ | ⟨h0,hA⟩
 ·rcases hE with e | ⟨e,hk⟩ | ⟨e,hk⟩
  ·exact absurd e hne
  ·exact .inr (.inl ⟨e,hk,k⟩)
  ·exact .inr (.inr ⟨e,hk,k⟩)
 ·obtain⟨x',ok',k,hf,q1,q2,q3,q4,q5,q6⟩:=MP h (fun _ _=>MB ho hi ht hn) hA;refine .inl ⟨h0,⟨x',ok',k,hf,q1,q2,q3,q4,⟨fun id=>?_,by rw[q6,Lj,List.append_nil];exact kn.sA,by rw[q6,Lj,List.append_nil];exact kn.sG⟩⟩,hs h0⟩;rw[q5,kn.rJ,ho.id];push_cast;omega
def V9(x x':Kx):Prop:=(x'=x\/∃nt S',x'.H=x.H++[(nt,S')])/\x'.bv=x.bv/\x'.N<=x.N+1/\Ig x x'
theorem V9.refl(x:Kx):V9 x x:=⟨.inl rfl,rfl,by omega,Ig.refl x⟩
end Go.Proofs.YtigaphnafnpfnaaGreatDoor
