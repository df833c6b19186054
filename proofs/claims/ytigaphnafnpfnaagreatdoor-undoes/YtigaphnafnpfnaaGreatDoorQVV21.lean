import Derived.Test.YtigaphnafnpfnaaGreatDoorQVY3
import Derived.Test.YtigaphnafnpfnaaGreatDoorQVN3
set_option linter.unusedVariables false
set_option linter.unusedSimpArgs false
set_option maxHeartbeats 8000000
set_option maxRecDepth 100000
namespace Go.Proofs.YtigaphnafnpfnaaGreatDoor
open Go.RowKit Go.Maps
attribute [local go_sem ↓] Go.wp_at_zero Go.wp_at_succ
def wK(f:Lit->Option Nat)(kl:Lit):Lit->Option Nat:=fun k=>if k.sameKey kl then none else f k
theorem ry{a:Lit->Option Nat}{kl:Lit}(b:WideAt.IsKeyLit kl):wK a kl kl=none:=by
 unfold wK;rw[if_pos (WideAt.sameKey_self b)]
theorem nG{a:Lit->Option Nat}{kl k':Lit}(b:WideAt.IsKeyLit kl)(c:k'≠kl):wK a kl k'=a k':=by
 unfold wK;rw[if_neg (fun h=>c ((WideAt.sameKey_iff b).1 h))]
theorem kG.drop{w:World}{k t e:TypeId}{b:Nat}{c:Lit->Option Nat}{n:Nat}(h:kG w k b c (n+1))(g:Keyed Tryz.prog k)(C:Tryz.prog.underlying t=some (.map k e)){r:Value}{kl:Lit}(z:keyOf Tryz.prog k r=some kl)(a:WideAt.IsKeyLit kl){x:Nat}(y:c kl=some x)(ty:TypeId) :
 ∃w',(Builtin.delete_ #[t,k] ty #[.map (some b),r]).run Tryz.prog w=.ok (.tuple #[]) w'/\kG w' k b (wK c kl) n/\aj (fun i=>i=b) w w':=by
 obtain⟨f,m,G,s,o⟩:=h;obtain⟨w',B,u,v⟩:=m.drop g C z ty;have d:Maps.size (f.del kl)=n:=by
  have:=size_del (k:=kl) (m.tidy g);rw[o kl,y]at this;simp at this;omega
 refine⟨w',B,⟨f.del kl,?_,d,fun k'=>?_,fun k'=>?_⟩,?_⟩
 ·obtain⟨l,j,q,F,hs,p⟩:=u;refine⟨l,j,q,F,?_,p⟩;rw[p]at d;simp[Maps.size,length_sorted]at d;omega
 ·by_cases e:k'=kl
  ·subst e;rw[atKey_del_same,ry a];rfl
  ·rw[atKey_del_other e,s,nG a e]
 ·by_cases e:k'=kl
  ·subst e;rw[has_del_same,ry a];rfl
  ·rw[has_del_other e,o,nG a e]
 ·obtain⟨l,j,E,D,q,rfl⟩:=v;refine⟨rfl,rfl,rfl,by simp[ChangeMaps.setBlock],fun i H A=>?_⟩;simp[ChangeMaps.setBlock,Array.getElem?_setIfInBounds,Ne.symm A]
def aS.yG(V:aS)(id:Int):aS:={ V with aV:=fun i=>if i=id then none else V.aV i,no:=V.no-1 }
theorem Ux(bv j a H b:Nat)(id:Int)(c:Array Value)(V:aS)(w:World)(R:dL w bv j a V)(P:(Lit.int .i64 id).wf=true)(l:V.aV id=some b)(hno:0<V.no)
 (F:∀i,i<V.nb->∀s,s<2->∀k,k<(V.B i).n s->(V.B i).h s k≠b) (v:au w H #[dh bv] 35) (z:au w (H+1) c 52) (A:c[0]?=some (II id)) :
 CT 114 #[dh H,dh (H+1)] w fun e w'=>e=.returned (.tuple #[])/\dL w' bv j a (V.yG id)/\aj (fun x=>x=a) w w':=by
 have x0:CC w H 0 (PP bv):=v.cell 0;have x1:CC w (H+1) 0 (II id):=(z.cell 0).trans A;have v1:CC w bv 1 (.map (some a)):=R.cO.cell 1;have fin:∀q,∃w',(Builtin.delete_ #[95,3] 0 #[.map (some a),II id]).run Tryz.prog (w.drewN q)=.ok (.tuple #[]) w'/\dL w' bv j a (V.yG id)/\aj (fun x=>x=a) w w':=by
  intro q;obtain⟨r,p,u⟩:=R.fA;obtain⟨n,D⟩:∃n,V.no=n+1:=⟨V.no-1,by omega⟩;rw[D]at p;obtain⟨w',Q,m',k'⟩:=(p.aC ((aj.refl aA w).drewN q) idd).drop yT Tryz.underlying95 (keyOf_int_mk Tryz.underlying3 P) trivial (by rw[u];exact l) 0;have g:aj (fun x=>x=a) w w':=((aj.refl _ w).drewN q).trans k';refine⟨w',Q,?_,g⟩;have nt:∀{x c t},au w x c t->¬x=a:=fun h e=>(p.ne h) e.symm
  obtain⟨M,W,N,O⟩:=R.iM;have Z:=R;refine⟨?_,⟨M,W.aC g R.F5,N,O⟩,⟨wK r (.int .i64 id),by show kG w' 3 a _ (V.no-1);rw[D];exact m',fun i=>?_⟩,R.F5,fun i d=>(R.aW i d).aC g ?_,fun i x f=>?_,fun i d s hs k C=>?_,R.rY,R.nX,Nat.le_trans (Nat.sub_le _ _) R.fM⟩
  ·exact R.aO.aC g (nt R.cO) (fun y T e=>by
    obtain⟨c,t,m,_⟩:=R.aO.aO.gZ T;exact nt m e)
  ·show wK r _ _=if i=id then none else V.aV i
   by_cases e:i=id
   ·subst e;rw[ry (kl:=.int .i64 i) trivial,if_pos rfl]
   ·rw[nG (kl:=.int .i64 id) (k':=.int .i64 i) trivial (fun h=>e (by simpa using h)),if_neg e,u]
  ·rintro x (rfl | ⟨s,hs,h⟩) e
   ·exact nt (R.aW i d).ay e
   ·obtain⟨c,t,m,_⟩:=(R.sG d).gZ (.inr (.inr ⟨s,hs,h⟩));exact nt m e
  ·have S:V.aV i=some x:=by
    simp only[aS.yG]at f;by_cases e:i=id
    ·rw[if_pos e]at f;simp at f
    ·rw[if_neg e]at f;exact f
   obtain⟨L,U,E⟩:=R.bg i x S;exact⟨L,U,g.ay E (nt E)⟩
  ·obtain⟨o,h⟩:=R.mem i d s hs k C;refine⟨o,?_⟩;show (if o=id then none else V.aV o)=_;rw[if_neg]
   ·exact h
   ·intro e;subst e;rw[l]at h;exact F i d s hs k C (Option.some.inj h).symm
 have Y:=ai fin;obtain⟨X,G,J⟩:=fin 0;obtain⟨w2,I,K⟩:=fin 1;have r1':(Builtin.delete_ #[95,3] 0 #[.map (some a),II id]).run Tryz.prog w=.ok (.tuple #[]) X:=G;have r2':(Builtin.delete_ #[95,3] 0 #[.map (some a),II id]).run Tryz.prog w.drew=.ok (.tuple #[]) w2:=I;clear fin R l F G I v z A;simp only[dh];go_enter Tryz.func114,Tryz.ntmps114;go_wp2;go_region
 all_goals
  go_wp2;go_end0
  first | exact⟨rfl,K⟩ | exact⟨rfl,J⟩
def aS.uU(V:aS):aS:={ V with nb:=V.nb-1 }
theorem UY(bv d m H l n:Nat)(s:ByteArray)(V:aS)(w:World)(R:dL w bv d m V)(z:V.nb=n+1)(hs:(V.B n).sym=s)(P:s.size<=maxLen)(D:au w H #[dh bv] 35)(E:au w l #[.string s] 9) :
 CT 54 #[dh H,dh l] w fun e w'=>e=.returned (.tuple #[])/\dL w' bv d m V.uU/\aj (fun x=>x=d) w w':=by
 have x0:CC w H 0 (PP bv):=D.cell 0;have x1:CC w l 0 (.string s):=E.cell 0;have v1:CC w bv 0 (.map (some d)):=R.cO.cell 0;have fin:∀q,∃w',(Builtin.delete_ #[94,9] 0 #[.map (some d),.string s]).run Tryz.prog (w.drewN q)=.ok (.tuple #[]) w'/\dL w' bv d m V.uU/\aj (fun x=>x=d) w w':=by
  intro q;obtain⟨p,k,r,M⟩:=R.iM;have mB0:=k;rw[z]at k;have F:p (sl s)=some (V.bk n):=by rw[<-hs];exact r n (by omega)
  obtain⟨w',S,m',k'⟩:=(k.aC ((aj.refl aA w).drewN q) idd).drop yU Tryz.underlying94 (WideMaps.keyOf_string_mk Tryz.underlying9 P) (kl:=sl s) trivial F 0;have g:aj (fun x=>x=d) w w':=((aj.refl _ w).drewN q).trans k';refine⟨w',S,?_,g⟩;have nt:∀{x c t},au w x c t->¬x=d:=fun h e=>(k.ne h) e.symm
  obtain⟨N,Y,O⟩:=R.fA;have f:∀{i},i<V.uU.nb->i<V.nb:=fun h=>Nat.lt_of_lt_of_le h (Nat.sub_le _ _)
  have X:∀{i},i<V.uU.nb->i<n:=fun h=>by simp only[aS.uU]at h;omega
  have Q:∀i,i<n->sl (V.B i).sym≠sl s:=fun i a e=>by
   have h:=r i (by omega);rw[e,F]at h;exact R.rY n i (by omega) (by omega) (by omega) (Option.some.inj h)
  refine⟨?_,⟨wK p (sl s),by show kG w' 9 d _ (V.nb-1);rw[z];exact m',fun i a=>?_,fun A b h=>?_⟩,⟨N,Y.aC g (fun e=>R.F5 e.symm),O⟩,R.F5,fun i a=>(R.aW i (f a)).aC g ?_,fun i x T=>?_,fun i a=>R.mem i (f a),fun i j a v=>R.rY i j (f a) (f v),fun i j a v=>R.nX i j (f a) (f v),R.fM⟩
  ·exact R.aO.aC g (nt R.cO) (fun y U e=>by
    obtain⟨c,t,u,_⟩:=R.aO.aO.gZ U;exact nt u e)
  ·show wK p (sl s) (sl (V.B i).sym)=some (V.bk i);rw[nG (kl:=sl s) trivial (Q i (X a))];exact r i (f a)
  ·by_cases e:A=s
   ·subst e;rw[ry (kl:=sl A) trivial]at h;simp at h
   ·rw[nG (kl:=sl s) trivial (fun h=>e (SK h))]at h;obtain⟨i,a,o,C⟩:=M A b h;refine⟨i,?_,o,C⟩;simp only[aS.uU];have:i≠n:=by rintro rfl;exact e (C.symm.trans hs)
    omega
  ·rintro x (rfl | ⟨s,hs,h⟩) e
   ·exact nt (R.aW i (f a)).ay e
   ·obtain⟨c,t,u,_⟩:=(R.sG (f a)).gZ (.inr (.inr ⟨s,hs,h⟩));exact nt u e
  ·obtain⟨o,W,G⟩:=R.bg i x T;exact⟨o,W,g.ay G (nt G)⟩
 have HF:=ai fin;obtain⟨Z,I,K⟩:=fin 0;obtain⟨w2,J,L⟩:=fin 1;have r1':(Builtin.delete_ #[94,9] 0 #[.map (some d),.string s]).run Tryz.prog w=.ok (.tuple #[]) Z:=I;have r2':(Builtin.delete_ #[94,9] 0 #[.map (some d),.string s]).run Tryz.prog w.drew=.ok (.tuple #[]) w2:=J;clear fin R I J D E hs z;simp only[dh];go_enter Tryz.func54,Tryz.ntmps54;go_wp2;go_region
 all_goals
  go_wp2;go_end0
  first | exact⟨rfl,L⟩ | exact⟨rfl,K⟩
open Go.RowKit
theorem sK.fin{p:Nat->Nat}{oc i s:Nat}{sym:ByteArray}{x:List Rc}{P A M:Int}{st:MS}{c:RC}(h:sK p oc i s sym x P A st c)(R:M<=1000000000000000)(q:Qo M (st.om oc)) :
 (∀k,k<c.S.l.length->ny (aI oc st (p k))=ny (ak (qV i c).l k))/\(qV i c).l.length=c.S.l.length/\(∀k,k≠i->ak (qV i c).l k=ak c.S.l k) /\
  (df (st.om oc)=true->(ak (qV i c).l i).place=wrap64 (c.S.places+1)/\(qV i c).places=wrap64 (c.S.places+1))/\(df (st.om oc)=false->(ak (qV i c).l i).aH=0/\(qV i c).places=c.S.places)/\(qV i c).t=c.S.t/\(qV i c).told=c.S.told/\(qV i c).day=c.S.day/\(qV i c).sy=c.S.sy:=by
 obtain⟨b,j,acz,htp,V,T,Y,U,Z,hle,W,X⟩:=h;have g:=b.il;have D:=fC b.self;obtain⟨F,I,J,K,w,L,N,O,o,G,v,H⟩:=D;simp only at F I J K w L N O o G v H;have E:∀a,a<c.S.l.length->a≠i->p a≠oc:=fun a B e z=>e (b.inj a i B g (by rw[z,b.pi]))
 have o0:=q.o0;have r:∀k,k<c.S.l.length->k≠i->aI oc st (p k)=st.om (p k):=fun k d e=>by
  unfold aI;split <;> exact ag _ _ (E k d e)
 have Q:(st.om oc).aH<=1000000000000000/\(st.om oc).aX<=1000000000000000:=by have:=q.hi;have:=q.sum;have:=q.f0;have:=q.c0;have:=q.e0;omega
 have u:(st.om oc).kind=(ak c.S.l i).kind:=w;unfold qV;by_cases n:c.left=0
 ·have f:df (st.om oc)=false:=by unfold df;rw[<-j,n];rfl
  rw[if_pos n];refine⟨fun k d=>?_,rfl,fun k _=>rfl,fun e=>absurd e (by rw[f];decide),fun _=>⟨o.symm,rfl⟩,rfl,rfl,rfl,rfl⟩;by_cases e:k=i
  ·subst e;rw[b.pi];unfold aI;rw[f];simp only[Bool.false_eq_true,if_false,ah];rw[<-b.self];show ny (fZ (st.om oc))=ny { st.om oc with aH:=0 };unfold fZ;rw[<-j,n,Int.add_zero,aU (by have:=q.c0;omega) (by omega)]
  ·rw[r k d e];exact b.same k d e
 ·rw[if_neg n];have C:0<(st.om oc).aH:=by omega
  by_cases m:dS (ak c.S.l i).kind=true
  ·have f:df (st.om oc)=true:=by unfold df;rw[u,m];simpa using C
   rw[if_pos m];refine⟨fun k d=>?_,by simp[RS.kC],fun k e=>?_,fun _=>⟨?_,rfl⟩,fun e=>absurd e (by rw[f];decide),rfl,rfl,rfl,rfl⟩
   ·simp only[RS.kC];rw[eX g];by_cases e:k=i
    ·subst e;rw[if_pos rfl,b.pi];unfold aI;rw[f];simp only[if_true,ah];have y:wrap64 ((ak c.S.l k).aH+c.left)=(st.om oc).aH:=by rw[<-o,j,Int.zero_add];exact aU (by omega) (by omega)
     have:=b.self;show ny (st.om oc)={ ny (ak c.S.l k) with aH:=wrap64 ((ak c.S.l k).aH+c.left) };rw[<-this,y]
     rfl
    ·rw[if_neg e,r k d e];exact b.same k d e
   ·simp only[RS.kC];rw[eX g,if_neg e]
   ·simp only[RS.kC];rw[eX g,if_pos rfl]
  ·have f:df (st.om oc)=false:=by
    unfold df;rw[u];cases hx:dS (ak c.S.l i).kind
    ·simp
    ·exact absurd hx m
   rw[if_neg m];refine⟨fun k d=>?_,by simp[RS.dN],fun k e=>?_,fun e=>absurd e (by rw[f];decide),fun _=>⟨?_,rfl⟩,rfl,rfl,rfl,rfl⟩
   ·simp only[RS.dN];rw[eX g];by_cases e:k=i
    ·subst e;rw[if_pos rfl,b.pi];unfold aI;rw[f];simp only[Bool.false_eq_true,if_false,ah];have:=b.self;show ny (fZ (st.om oc))={ ny (ak c.S.l k) with aX:=wrap64 ((ak c.S.l k).aX+c.left) };rw[<-this,<-v,j]
     rfl
    ·rw[if_neg e,r k d e];exact b.same k d e
   ·simp only[RS.dN];rw[eX g,if_neg e]
   ·simp only[RS.dN];rw[eX g,if_pos rfl];exact o.symm
theorem sK.report{p:Nat->Nat}{oc i s:Nat}{sym:ByteArray}{r:List Rc}{a m M:Int}{st:MS}{c:RC}(h:sK p oc i s sym r a m st c)(E:M<=1000000000000000)(q:Qo M (st.om oc))(k:Ord)(t:k.filled=m)(u:k.aX=(st.om oc).aX)(L:st.tr<=1000000000)(N:0<=a) :
 kK k (aI oc st oc) a st.tr=IK i c:=by
 obtain⟨D,f,O,K,G,F,y,w,z,J,H,I⟩:=h;have C:=fC D.self;have o:(st.om oc).kind=(ak c.S.l i).kind:=C.2.2.2.2.1;have P:=q.o0;have Q:=q.f0;have R:=q.c0;have T:=q.e0;have U:=q.sum;have V:=q.hi;have n:∀b:Ord,b.filled=(st.om oc).filled->kK k b a st.tr=dm c.filled b.aH (wrap64 (b.aX-(st.om oc).aX)) c.first c.count:=fun b v=>by
  unfold kK;rw[v,t,u,aU (x:=(st.om oc).filled-m) (by omega) (by omega),y,z,w];split
  ·rw[if_neg (by omega),aU (x:=a+1) (by omega) (by omega),aU (x:=st.tr-a) (by omega) (by omega)]
  ·rw[if_pos (by omega),show st.tr-a=0 by omega]
 unfold IK;by_cases j:c.left=0
 ·have d:df (st.om oc)=false:=by unfold df;rw[<-f,j];rfl
  rw[if_pos j];have e:aI oc st oc=fZ (st.om oc):=by unfold aI;rw[d];simp[ah]
  rw[e,n (fZ (st.om oc)) rfl];show dm c.filled 0 (wrap64 (wrap64 ((st.om oc).aX+(st.om oc).aH)-(st.om oc).aX)) c.first c.count=_;rw[<-f,j,Int.add_zero,aU (x:=(st.om oc).aX) (by omega) (by omega),Int.sub_self,aU (by decide) (by decide)]
 ·rw[if_neg j];have A:0<(st.om oc).aH:=by omega
  by_cases g:dS (ak c.S.l i).kind=true
  ·have d:df (st.om oc)=true:=by unfold df;rw[o,g];simpa using A
   rw[if_pos g];have e:aI oc st oc={ st.om oc with place:=wrap64 (st.B.places+1) }:=by unfold aI;rw[d];simp[ah]
   rw[e,n { st.om oc with place:=wrap64 (st.B.places+1) } rfl];show dm c.filled (st.om oc).aH (wrap64 ((st.om oc).aX-(st.om oc).aX)) c.first c.count=_;rw[Int.sub_self,aU (by decide) (by decide),f]
  ·have d:df (st.om oc)=false:=by
    unfold df;rw[o];cases hx:dS (ak c.S.l i).kind
    ·simp
    ·exact absurd hx g
   rw[if_neg g];have e:aI oc st oc=fZ (st.om oc):=by unfold aI;rw[d];simp[ah]
   rw[e,n (fZ (st.om oc)) rfl];show dm c.filled 0 (wrap64 (wrap64 ((st.om oc).aX+(st.om oc).aH)-(st.om oc).aX)) c.first c.count=_;rw[aU (x:=(st.om oc).aX+(st.om oc).aH) (by omega) (by omega),show (st.om oc).aX+(st.om oc).aH-(st.om oc).aX=(st.om oc).aH by omega,aU (by omega) (by omega),f]
def mN(N:Nat):Int:=1000000 * ((N:Int)+1)
structure di(p:Nat->Nat)(V:aS)(S:RS)(N:Nat):Prop where
 gw:GW V (mN N)
 nb:V.nb=S.sy.length
 sym:∀i,i<V.nb->S.sy[i]?=some (V.B i).sym
 no:V.no=S.l.length
 aV:∀k,k<S.l.length->V.aV (ak S.l k).id=some (p k)
 yY:∀id b,V.aV id=some b->∃k,k<S.l.length/\(ak S.l k).id=id/\p k=b
 inj:∀a b,a<S.l.length->b<S.l.length->p a=p b->a=b
 same:∀k,k<S.l.length->ny (V.om (p k))=ny (ak S.l k)
 place:∀a b,a<S.l.length->b<S.l.length->(ak S.l a).sym=(ak S.l b).sym->0<(ak S.l a).aH->0<(ak S.l b).aH->((V.om (p a)).place<(V.om (p b)).place↔(ak S.l a).place<(ak S.l b).place)
 wI:∀a b,a<S.l.length->b<S.l.length->a≠b->(ak S.l a).sym=(ak S.l b).sym->0<(ak S.l a).aH->0<(ak S.l b).aH->(ak S.l a).place≠(ak S.l b).place
 Nb:∀k,k<S.l.length->0<(ak S.l k).aH->∀i,i<V.nb->(V.B i).sym=(ak S.l k).sym->(V.om (p k)).place<=(V.B i).places
 Nc:∀k,k<S.l.length->0<(ak S.l k).aH->(ak S.l k).place<=S.places
 KQ:∀i,i<V.nb->0<=(V.B i).places/\(V.B i).places<=2 * (N:Int)
 Po:0<=S.places/\S.places<=2 * (N:Int)
 tr:V.lg.tr=S.t
 day:V.lg.day=S.day
 xk:V.lg.tr.length<=300 * N
 zA:V.lg.tp.length<=300 * N
 zu:V.lg.ud+V.lg.na<=N
 fM:V.no<=200
 Pn:V.nb<=6
 xx:∀k,k<S.l.length->cZ (ak S.l k).id=true
section
variable {p : Nat -> Nat} {V : aS} {S : RS} {N : Nat}
theorem di.vl(h:di p V S N)(x:Nat):VL V x↔∃k,k<S.l.length/\p k=x:=by
 constructor
 ·rintro⟨id,b⟩;obtain⟨k,a,_,e⟩:=h.yY id x b;exact⟨k,a,e⟩
 ·rintro⟨k,a,rfl⟩;exact⟨_,h.aV k a⟩
theorem di.aH(h:di p V S N){k:Nat}(a:k<S.l.length):0<=(ak S.l k).aH/\(ak S.l k).aH<=mN N:=by
 have q:=h.gw.q (p k) ((h.vl _).2 ⟨k,a,rfl⟩);have e:=(fC (h.same k a)).2.2.2.2.2.2.2.2.1;rw[<-e];have:=q.o0;have:=q.f0;have:=q.c0;have:=q.e0;have:=q.sum;have:=q.hi;omega
theorem di.side(h:di p V S N){k:Nat}(a:k<S.l.length):(ak S.l k).side=0\/(ak S.l k).side=1:=by
 have e:=(fC (h.same k a)).2.2.2.1;rw[<-e];exact h.gw.side (p k) ((h.vl _).2 ⟨k,a,rfl⟩)
theorem di.count(h:di p V S N){i s:Nat}(o:i<V.nb)(hs:s<2):(V.B i).n s<=V.no:=by
 have q:∀k,k<(V.B i).n s->∃j,j<S.l.length/\p j=(V.B i).h s k:=fun k c=>(h.vl _).1 ((((h.gw.gb i o).mem s hs _).1 ⟨k,c,rfl⟩).1)
 rw[h.no];have r:∃d:Nat->Nat,∀k,k<(V.B i).n s->d k<S.l.length/\p (d k)=(V.B i).h s k:=by
  refine⟨fun k=>if c:k<(V.B i).n s then (q k c).choose else 0,fun k c=>?_⟩;dsimp only;rw[dif_pos c];exact (q k c).choose_spec
 obtain⟨d,f⟩:=r;refine RY S.l.length _ d (fun a b g m e=>?_) (fun k c=>(f k c).1);have:=(f a g).2;rw[e,(f b m).2]at this;exact (h.gw.gb i o).inj s hs a b g m this.symm
end
theorem GW.mono{V:aS}{M M':Int}(h:GW V M)(a:M<=M'):GW V M':=⟨h.gb,h.mW,fun x b=>(h.q x b).mono a,h.sym,h.side⟩
theorem rU{N a:Nat}(h:N<=a):mN N<=mN a:=by unfold mN;omega
theorem ql{oc s:Nat}:∀(a:Nat) (st:MS),(bu oc s a st).B.places=st.B.places:=by
 intro a
 induction a with
 | zero=>intro st;rfl
 | succ a ih =>
   intro st;rw[bu];split
   ·rfl
   ·rw[ih];unfold bF;split
    ·rfl
    ·simp only[dO];split <;> rfl
theorem Ew(oc t g cap':Nat)(st:MS):(dX oc t g cap' st).places=if df (st.om oc) then wrap64 (st.B.places+1) else st.B.places:=by
 unfold dX;split <;> rfl
theorem di.RI{p:Nat->Nat}{V y:aS}{N:Nat}{oc i s t g cap' n:Nat}{st:MS}{c:RC}{R0:List Rc}{YI f0:Int}(hN:N<3000000)(G:n<V.nb)
 (L:sK p oc i s (V.B n).sym R0 YI f0 st c) (q:Qo (mN (N+1)) (st.om oc))
 (gw:GW y (mN (N+1))) (U:y.nb=V.nb) (hB:y.B=aK V.B n (dX oc t g cap' st)) (W:y.om=aI oc st) (H:y.lg=iO oc st)
 (K:∀j,(y.B j).sym=(V.B j).sym) (hpb:st.B.places=(V.B n).places) (O:∀i,i<V.nb->0<=(V.B i).places/\(V.B i).places<=2 * (N:Int))
 (abO:V.nb=c.S.sy.length) (abX:∀i,i<V.nb->c.S.sy[i]?=some (V.B i).sym) (hno:y.no=c.S.l.length) (abS:∀k,k<c.S.l.length->y.aV (ak c.S.l k).id=some (p k)) (aam:∀id b,y.aV id=some b->∃k,k<c.S.l.length/\(ak c.S.l k).id=id/\p k=b)
 (Nb:∀k,k<c.S.l.length->k≠i->0<(ak c.S.l k).aH->∀j,j<V.nb->(V.B j).sym=(ak c.S.l k).sym->(st.om (p k)).place<=(V.B j).places)
 (Nc:∀k,k<c.S.l.length->k≠i->0<(ak c.S.l k).aH->(ak c.S.l k).place<=c.S.places) (Po:0<=c.S.places/\c.S.places<=2 * (N:Int))
 (xk:st.lg.tr.length<=300 * (N+1)) (zA:st.lg.tp.length<=300 * (N+1)) (zu:st.lg.ud+st.lg.na<=N+1) (fM:y.no<=200) (hn6:V.nb<=6) (abL:∀k,k<c.S.l.length->cZ (ak c.S.l k).id=true):di p y (qV i c) (N+1):=by
 have hM:mN (N+1)<=1000000000000000:=by unfold mN;omega
 obtain⟨Q,C,u,D,R,f6,f7,f8,f9⟩:=L.fin hM q;have x:=L.oG;have il:=x.il;have pni:∀a,a<c.S.l.length->a≠i->p a≠oc:=fun a v e P=>e (x.inj a i v il (by rw[P,x.pi]))
 have I:∀k,k<c.S.l.length->k≠i->aI oc st (p k)=st.om (p k):=fun k f e=>by
  unfold aI;split <;> exact ag _ _ (pni k f e)
 have X:∀k,k<c.S.l.length->(ak (qV i c).l k).id=(ak c.S.l k).id:=fun k f=>by
  by_cases e:k=i
  ·subst e;have a:=(fC (Q k f)).1;have b:=(fC x.self).1;simp only at b;rw[<-a,<-b,x.pi,xK]
  ·rw[u k e]
 have J:(ak (qV i c).l i).sym=(V.B n).sym:=by
  have a:=(fC (Q i il)).2.2.1;have b:=(fC x.self).2.2.1;simp only at b;rw[<-a,x.pi,<-x.U6,<-b];unfold aI;split <;> rw[ah]
  rfl
 have wb:wrap64 ((V.B n).places+1)=(V.B n).places+1:=aU (by have:=O n G;omega) (by have:=O n G;omega);have F:wrap64 (c.S.places+1)=c.S.places+1:=aU (by omega) (by omega);have uO:∀j,(y.B j).places=if j=n/\df (st.om oc)=true then (V.B n).places+1 else (V.B j).places:=fun j=>by
  rw[hB];by_cases e:j=n
  ·subst e;rw[ah,Ew,hpb];split
   ·rename_i d;rw[if_pos ⟨rfl,d⟩,wb]
   ·rename_i d;rw[if_neg (fun h=>d h.2)]
  ·rw[ag _ _ e,if_neg (fun h=>e h.1)]
 have E:0<(ak (qV i c).l i).aH->df (st.om oc)=true:=fun h0=>by
  cases d:df (st.om oc)
  ·have:=(R d).1;omega
  ·rfl
 have KR:df (st.om oc)=true->(aI oc st oc).place=(V.B n).places+1:=fun d=>by
  unfold aI;rw[if_pos d,ah];show wrap64 (st.B.places+1)=_;rw[hpb,wb]
 have M:∀k,k<c.S.l.length->k≠i->0<(ak c.S.l k).aH->(ak c.S.l k).sym=(V.B n).sym->(st.om (p k)).place<=(V.B n).places/\(ak c.S.l k).place<=c.S.places:=fun k f e h0 m=>⟨Nb k f e h0 n G m.symm,Nc k f e h0⟩
 refine⟨gw,?_,?_,?_,?_,?_,?_,?_,?_,?_,?_,?_,?_,?_,?_,?_,?_,?_,?_,?_,by rw[U];exact hn6,fun k f=>by rw[C]at f;rw[X k f];exact abL k f⟩
 ·rw[U,f9];exact abO
 ·intro j T;rw[f9,K j];exact abX j (by omega)
 ·rw[hno,C]
 ·intro k f;rw[C]at f;rw[X k f];exact abS k f
 ·intro id b w;obtain⟨k,f,e1,P⟩:=aam id b w;exact⟨k,by rw[C];exact f,by rw[X k f];exact e1,P⟩
 ·intro a b v w e;rw[C]at v w;exact x.inj a b v w e
 ·intro k f;rw[C]at f;rw[W];exact Q k f
 ·intro a b v w m z A;rw[C]at v w;rw[W];by_cases o:a=i <;> by_cases r:b=i
  ·rw[o,r];exact⟨fun h=>by omega,fun h=>by omega⟩
  ·subst o;have d:=E z;rw[u b r]at m A ⊢;obtain⟨Y,Z⟩:=M b w r A (by rw[<-m];exact J);rw[x.pi,KR d,I b w r,(D d).1,F];omega
  ·subst r;have d:=E A;rw[u a o]at m z ⊢;obtain⟨Y,Z⟩:=M a v o z (by rw[m];exact J);rw[x.pi,KR d,I a v o,(D d).1,F];omega
  ·rw[u a o,u b r]at m ⊢;rw[u a o]at z;rw[u b r]at A;rw[I a v o,I b w r];exact x.place a b v w o r m z A
 ·intro a b v w hab m z A;rw[C]at v w;by_cases o:a=i <;> by_cases r:b=i
  ·omega
  ·subst o;have d:=E z;rw[u b r]at m A ⊢;obtain⟨Y,Z⟩:=M b w r A (by rw[<-m];exact J);rw[(D d).1,F];omega
  ·subst r;have d:=E A;rw[u a o]at m z ⊢;obtain⟨Y,Z⟩:=M a v o z (by rw[m];exact J);rw[(D d).1,F];omega
  ·rw[u a o,u b r]at m ⊢;rw[u a o]at z;rw[u b r]at A;exact x.wI a b v w o r hab m z A
 ·intro k f h0 j T m;rw[C]at f;rw[K j]at m;rw[W,uO j];by_cases e:k=i
  ·subst e;have d:=E h0;have ej:j=n:=gw.mW j n T (by rw[U];exact G) (by rw[K j,K n,m];exact J);rw[x.pi,KR d,if_pos ⟨ej,d⟩];omega
  ·rw[u k e]at h0 m;rw[I k f e];have:=Nb k f e h0 j (by omega) m;split
   ·rename_i hx;rw[hx.1]at this;omega
   ·exact this
 ·intro k f h0;rw[C]at f;have hp:c.S.places<=(qV i c).places:=by
   cases d:df (st.om oc)
   ·rw[(R d).2];omega
   ·rw[(D d).2,F];omega
  by_cases e:k=i
  ·subst e;have d:=E h0;rw[(D d).1,(D d).2];omega
  ·rw[u k e]at h0 ⊢;have:=Nc k f e h0;omega
 ·intro j T;rw[uO j];have z:=O j (by omega);have A:=O n G;split <;> (push_cast;omega)
 ·cases d:df (st.om oc)
  ·rw[(R d).2];push_cast;omega
  ·rw[(D d).2,F];push_cast;omega
 ·rw[H,f6];exact L.tr
 ·rw[H,f8];exact L.day
 ·rw[H];exact xk
 ·rw[H];exact zA
 ·rw[H];exact zu
 ·exact fM
theorem GW.apart{V:aS}{M:Int}(g:GW V M){w:World}{bv c d:Nat}(R:dL w bv c d V){i x:Nat}(q:VL V x)(hs:(V.om x).sym=(V.B i).sym)(f:i<V.nb):pV V i x:=by
 intro j a n t b p;rcases p with e | ⟨l,m,e⟩
 ·obtain⟨id,k⟩:=q;obtain⟨_,r,o⟩:=R.bg id x k;exact ((R.aW j a).side t b).ne o (by decide) e
 ·have:=((g.gb j a).mem t b _).1 ⟨l,m,rfl⟩;rw[<-e,hs]at this;exact n (g.mW i j f a this.2.1).symm
theorem GW.idx{V:aS}{M:Int}(g:GW V M){x:Nat}(b:VL V x):∃i t:Nat,i<V.nb/\t<2/\(V.om x).sym=(V.B i).sym/\(V.om x).side=(t:Int):=by
 obtain⟨i,a,e⟩:=g.sym x b;rcases g.side x b with h | h
 ·exact⟨i,0,a,by omega,e,h⟩
 ·exact⟨i,1,a,by omega,e,h⟩
theorem GW.Sz{V:aS}{M:Int}(g:GW V M)(G':Lg)(bG:Lm):GW { V with lg:=G',lm:=bG } M:=⟨g.gb,g.mW,g.q,g.sym,g.side⟩
theorem MG{V:aS}{M:Int}(g:GW V M){i b:Nat}{B':Bk}{dG:Nat->Ord}{G':Lg}{bG:Lm}(w:i<V.nb)(z:VL V b)(l:(V.om b).sym=(V.B i).sym)(FZ:∀x,x≠b->dG x=V.om x)(o:(dG b).sym=(V.om b).sym)(s:(dG b).side=(V.om b).side)(y:Qo M (dG b))(t:B'.sym=(V.B i).sym)(r:GB B' dG (V.B i).sym (VL V)) :
 GW { V.turn i B' dG with lg:=G',lm:=bG } M:=by
 have st:∀x,(dG x).sym=(V.om x).sym/\(dG x).side=(V.om x).side:=fun x=>by
  by_cases e:x=b
  ·rw[e];exact⟨o,s⟩
  ·rw[FZ x e];exact⟨rfl,rfl⟩
 have sy:∀j,(aK V.B i B' j).sym=(V.B j).sym:=fun j=>by
  by_cases e:j=i
  ·rw[e,ah];exact t
  ·rw[ag _ _ e]
 refine⟨fun j k=>?_,fun a c u v e=>?_,fun x d=>?_,fun x d=>?_,fun x d=>?_⟩
 ·show GB (aK V.B i B' j) dG (aK V.B i B' j).sym (VL V);rw[sy j];by_cases e:j=i
  ·subst e;rw[ah];exact r
  ·rw[ag _ _ e];have m:(V.B i).sym≠(V.B j).sym:=fun h=>e (g.mW i j w k h).symm
   refine (g.gb j k).lW (fun x=>?_) (fun x _ hs _=>?_)
   ·by_cases f:x=b
    ·subst f;constructor
     ·rintro⟨_,c,_⟩;exact absurd ((o.trans l).symm.trans c) m
     ·rintro⟨_,c,_⟩;exact absurd (l.symm.trans c) m
    ·rw[FZ x f]
   ·have f:x≠b:=fun p=>m (by rw[p]at hs;exact l.symm.trans hs)
    rw[FZ x f];exact⟨rfl,rfl,rfl⟩
 ·refine g.mW a c u v ?_;have n:(aK V.B i B' a).sym=(aK V.B i B' c).sym:=e;rw[sy a,sy c]at n;exact n
 ·show Qo M (dG x);by_cases e:x=b
  ·rw[e];exact y
  ·rw[FZ x e];exact g.q x d
 ·obtain⟨j,k,e⟩:=g.sym x d;refine⟨j,k,?_⟩;show (dG x).sym=(aK V.B i B' j).sym;rw[(st x).1,sy j];exact e
 ·show (dG x).side=0\/(dG x).side=1;rw[(st x).2];exact g.side x d
structure WV(V:aS)(M:Int)(i s b:Nat)(q:Int)(again:Bool)(V':aS):Prop where
 gw:GW V' M
 aV:V'.aV=V.aV
 no:V'.no=V.no
 nb:V'.nb=V.nb
 lV:∀j,(V'.B j).sym=(V.B j).sym
 way:((again=false\/dS (V.om b).kind=false\/(dA (V.B i) V.om (bI (V.om b)) s).isSome=true)/\V'.om=aK V.om b (eY (V.om b) q)/\∀j,(V'.B j).places=(V.B j).places) \/
  (again=true/\dS (V.om b).kind=true/\dA (V.B i) V.om (bI (V.om b)) s=none/\V'.om=bQ V i b q/\∀j,(V'.B j).places=if j=i then wrap64 ((V.B i).places+1) else (V.B j).places)
theorem xm{V:aS}{i:Nat}{B':Bk}{α:Type}(a:Bk->α)(h:a B'=a (V.B i))(j:Nat):a (aK V.B i B' j)=a (V.B j):=by
 by_cases e:j=i
 ·rw[e,ah,h]
 ·rw[ag _ _ e]
theorem rH{l:List Ord}{o:Ord}{k:Nat}(h:k<l.length):ak (l++[o]) k=ak l k:=by
 unfold ak;rw[List.getD_eq_getElem?_getD,List.getD_eq_getElem?_getD,List.getElem?_append_left h]
theorem oC{l:List Ord}{o:Ord}:ak (l++[o]) l.length=o:=by
 unfold ak;rw[List.getD_eq_getElem?_getD,List.getElem?_append_right (Nat.le_refl _)];simp
theorem VW(oc s:Nat)(st:MS):(mF oc s st).lg.na=st.lg.na:=(qM oc s _ st).1
theorem Rq(oc s:Nat)(st:MS):(bF oc s st).lg.ud=st.lg.ud:=by
 unfold bF;split
 ·rfl
 ·simp only[Lg.lC,Lg.told,Lg.aC,Lg.aY,dD];split <;> rfl
theorem Dk(oc s:Nat):∀(a:Nat) (st:MS),(bu oc s a st).lg.ud=st.lg.ud
 | 0,st=>rfl
 | a+1,st=>by
   rw[bu];split
   ·rfl
   ·rw[Dk oc s a,Rq]
theorem VX(oc s:Nat)(st:MS):(mF oc s st).lg.ud=st.lg.ud:=Dk oc s _ st
theorem di.VE{p:Nat->Nat}{V:aS}{S:RS}{N:Nat}(h:di p V S N){o:iR}{u b s t:Nat}(K:u<V.nb)(hs:s<2)(T:t=1-s)(P:o.sym=(V.B u).sym)(R:o.side=(t:Int))(J:¬VL V b) :
 wF (aK p S.l.length b) b S.l.length s (V.B u) (aK V.om b (aQ o)) (S.fresh.add o).l (V.B u).sym:=by
 have E:∀k,k<S.l.length->p k≠b:=fun k d e=>J ((h.vl b).2 ⟨k,d,e⟩)
 have D:∀k,k<S.l.length->aK V.om b (aQ o) (p k)=V.om (p k):=fun k d=>ag _ _ (E k d)
 have i:(S.fresh.add o).l.length=S.l.length+1:=by simp[RS.add,RS.fresh]
 have F:(S.fresh.add o).l=S.l++[wU o]:=rfl;have f:∀k,k<S.l.length->ak (S.fresh.add o).l k=ak S.l k:=fun k d=>by rw[F];exact rH d
 have v:ak (S.fresh.add o).l S.l.length=wU o:=by rw[F];exact oC
 have g:∀k,k<S.l.length->aK p S.l.length b k=p k:=fun k d=>ag _ _ (by omega)
 have pl:aK p S.l.length b S.l.length=b:=ah _ _ _;have Q:o.side=0\/o.side=1:=by omega
 refine⟨by omega,pl,fun a c n q e=>?_,fun k d O=>?_,?_,fun a c n q L M r j m=>?_,fun a c n q L M I r j m=>?_,fun x=>?_,?_,?_,fun k d=>?_,fun k d=>?_⟩
 ·rw[i]at n q;by_cases G:a=S.l.length <;> by_cases H:c=S.l.length
  ·omega
  ·rw[G,pl,g c (by omega)]at e;exact absurd e.symm (E c (by omega))
  ·rw[H,pl,g a (by omega)]at e;exact absurd e (E a (by omega))
  ·rw[g a (by omega),g c (by omega)]at e;exact h.inj a c (by omega) (by omega) e
 ·rw[i]at d;rw[g k (by omega),D k (by omega),f k (by omega)];exact h.same k (by omega)
 ·rw[ah,v];rfl
 ·rw[i]at n q;rw[f a (by omega),f c (by omega)]at r ⊢;rw[f a (by omega)]at j;rw[f c (by omega)]at m;rw[g a (by omega),g c (by omega),D a (by omega),D c (by omega)];exact h.place a c (by omega) (by omega) r j m
 ·rw[i]at n q;rw[f a (by omega),f c (by omega)]at r ⊢;rw[f a (by omega)]at j;rw[f c (by omega)]at m;exact h.wI a c (by omega) (by omega) I r j m
 ·rw[(h.gw.gb u K).mem s hs x,h.vl x,i];constructor
  ·rintro⟨⟨k,d,rfl⟩,w,a2,a3⟩;obtain⟨_,_,z,A,_,_,_,_,C,_⟩:=fC (h.same k d);refine⟨k,by omega,by omega,g k d,?_,?_,?_⟩ <;> rw[f k d]
   ·rw[<-z];exact w
   ·rw[<-A];exact a2
   ·rw[<-C];exact a3
  ·rintro⟨k,d,O,e,w,a2,a3⟩;have y:k<S.l.length:=by omega
   obtain⟨_,_,z,A,_,_,_,_,C,_⟩:=fC (h.same k y);rw[f k y]at w a2 a3;rw[g k y]at e;subst e;exact⟨⟨k,y,rfl⟩,by rw[z];exact w,by rw[A];exact a2,by rw[C];exact a3⟩
 ·rw[v];exact P
 ·rw[v];show o.side=_;omega
 ·rw[i]at d;by_cases e:k=S.l.length
  ·rw[e,v];exact Q
  ·rw[f k (by omega)];exact h.side (by omega)
 ·rw[i]at d;by_cases e:k=S.l.length
  ·rw[e,v];exact Int.le_refl _
  ·rw[f k (by omega)];exact (h.aH (by omega)).1
theorem di.enter{p:Nat->Nat}{V:aS}{S:RS}{N:Nat}(h:di p V S N)(hN:N<2900000){o:iR}{i b s t g cap':Nat}{bG:Lm}(w:i<V.nb)(hs:s<2)(ht:t=1-s)(mf:o.sym=(V.B i).sym)(X:o.side=(t:Int))(hq1:1<=o.az)(hq2:o.az<=1000000)(U:V.aV o.id=none)(E:¬VL V b)(abv:V.no<200)(Xx:cZ o.id=true) :
 ∃d M,uJ S.l.length M ⟨S.fresh.add o,o.az,0,0,0⟩ d/\M<=201/\di (aK p S.l.length b) (V.enter i b s t g cap' o bG) (qV S.l.length d) (N+1)/\kK (aQ o) ((V.enter i b s t g cap' o bG).om b) V.tr (V.enter i b s t g cap' o bG).tr=IK S.l.length d/\(V.enter i b s t g cap' o bG).lg.tp=nJ V.lg.tp (qV S.l.length d).told/\(qV S.l.length d).told.length<=201:=by
 have A:mN (N+1)<=1000000000000000:=by unfold mN;omega
 have hmN:1000000<=mN (N+1):=by unfold mN;omega
 obtain⟨gw',v,iv,hBs,hVL,gi⟩:=(h.gw.mono (rU (Nat.le_add_right N 1))).enter (b:=b) (g:=g) (cap':=cap') (bG:=bG) A w hs ht mf X (by omega) (by omega) U E;obtain⟨a,f⟩:∃a:MS,a=⟨V.B i,aK V.om b (aQ o),V.lg.bf o.id⟩:=⟨_,rfl⟩;rw[<-f]at v iv;have pb:∀k,k<S.l.length->p k≠b:=fun k c e=>E ((h.vl b).2 ⟨k,c,e⟩)
 have om0:∀k,k<S.l.length->aK V.om b (aQ o) (p k)=V.om (p k):=fun k c=>ag _ _ (pb k c)
 have len0:(S.fresh.add o).l.length=S.l.length+1:=by simp[RS.add,RS.fresh]
 have l0:(S.fresh.add o).l=S.l++[wU o]:=rfl;have nl:∀k,k<S.l.length->ak (S.fresh.add o).l k=ak S.l k:=fun k c=>by rw[l0];exact rH c
 have nn:ak (S.fresh.add o).l S.l.length=wU o:=by rw[l0];exact oC
 have G:∀k,k<S.l.length->aK p S.l.length b k=p k:=fun k c=>ag _ _ (by omega)
 have pl:aK p S.l.length b S.l.length=b:=ah _ _ _;have sides:o.side=0\/o.side=1:=by omega
 have Yf:=h.VE w hs ht mf X E;have hcs:=h.count w hs;have hmu:mu b s a<=201:=by
  rw[f];unfold mu;simp only;split <;> omega
 have hR:sK (aK p S.l.length b) b S.l.length s (V.B i).sym V.lg.tp V.tr 0 a ⟨S.fresh.add o,o.az,0,0,0⟩:=by
  rw[f];refine⟨Yf,?_,h.tr,rfl,h.day,rfl,?_,?_,?_,Int.le_refl _,Int.le_refl _,by decide⟩
  ·simp only[ah];rfl
  ·simp only[ah];rfl
  ·show (0:Int)=MS.tr ⟨V.B i,aK V.om b (aQ o),V.lg.bf o.id⟩-V.tr;unfold MS.tr aS.tr;show (0:Int)=(V.lg.tr.length:Int)-V.lg.tr.length;omega
  ·show (0:Int)=if MS.tr ⟨V.B i,aK V.om b (aQ o),V.lg.bf o.id⟩=V.tr then 0 else V.tr+1
   exact (if_pos (show MS.tr ⟨V.B i,aK V.om b (aQ o),V.lg.bf o.id⟩=V.tr from rfl)).symm
 have hqx:∀x,(x=b\/mJ a s x)->Qo (mN (N+1)) (a.om x):=fun x hx=>by
  rw[f]at hx ⊢;rcases hx with e | e
  ·simp only[e,ah];exact Ar (by omega) (by omega)
  ·have hvx:=(((h.gw.gb i w).mem s hs x).1 e).1;simp only;rw[ag _ _ (fun y=>E (by rw[<-y];exact hvx))];exact (h.gw.q x hvx).mono (rU (Nat.le_add_right N 1))
 have hheap:ed (fE a.om) (a.B.n s) (a.B.h s):=by rw[f];exact gi.heap s hs
 have ab2:=h.xk;have abZ:=h.zA;have abP:=h.fM;have JY:a.tr=V.tr:=by rw[f];rfl
 have I:V.tr=(V.lg.tr.length:Int):=rfl;obtain⟨d,he,u,hsy,hpl,r,hpc,htl,hol⟩:=sK.ZQ A hs (by rw[I];omega) (mu b s a) a _ hR iv hheap hqx (Nat.le_refl _) (by rw[JY,I];omega);change sK _ _ _ _ _ _ _ _ (mF b s a) d at u;have Z:d.S.sy=S.sy:=hsy;have W:d.S.places=S.places:=hpl;rw[len0]at r;have q:=v.q b (.inl rfl);have hlen:=Rh (oc:=b) (s:=s) (st:=a);have e0:a.lg.tr.length=V.lg.tr.length/\a.lg.tp.length=V.lg.tp.length/\a.B.n s=(V.B i).n s/\a.lg.na=V.lg.na+1/\a.lg.ud=V.lg.ud:=by rw[f];exact⟨rfl,rfl,rfl,rfl,rfl⟩
 obtain⟨e01,e02,e03,e04,e05⟩:=e0;rw[e01,e02,e03]at hlen;have C:∀k,k<S.l.length->(ak d.S.l k).id=(ak S.l k).id/\(ak d.S.l k).sym=(ak S.l k).sym/\((mF b s a).om (p k)).place=(V.om (p k)).place/\(0<(ak d.S.l k).aH->0<(ak S.l k).aH)/\(ak d.S.l k).place=(ak S.l k).place:=fun k c=>by
  obtain⟨z,_,O,_,_,_,_,_,P,_⟩:=fC (u.oG.same k (by rw[r];omega) (by omega));rw[G k c]at z O P;obtain⟨Q,_,R,_,_,_,_,T,_⟩:=v.oH (p k);have D:a.om (p k)=V.om (p k):=by rw[f];exact om0 k c
  rw[D]at Q R T;obtain⟨k1,_,k3,_,_,_,_,_,k9,_⟩:=fC (h.same k c);refine⟨by rw[<-z,Q,k1],by rw[<-O,R,k3],T,fun h0=>?_,by rw[hpc k];exact congrArg Ord.place (nl k c)⟩;rw[<-P]at h0;rw[<-k9];by_cases J:mJ a s (p k)
  ·rw[f]at J;exact (((h.gw.gb i w).mem s hs _).1 J).2.2.2
  ·rw[v.FZ _ (pb k c) J,D]at h0;exact h0
 have new:(ak d.S.l S.l.length).id=o.id:=by
  have z:=(fC u.oG.self).1;simp only at z;rw[<-z,(v.oH b).1,f];simp only[ah]
  rfl
 refine⟨d,mu b s a,he,hmu,?_,?_,?_,?_⟩
 ·refine di.RI (V:=V) (g:=g) (cap':=cap') (t:=t) (by omega) w u q gw' rfl (by rw[f];rfl) (by rw[f];rfl) (by rw[f];rfl) hBs (by unfold mF;rw[ql,f]) h.KQ (by rw[Z];exact h.nb) (by rw[Z];exact h.sym) (by rw[r,<-h.no];rfl) (fun k c=>?_) (fun id L hb2=>?_) (fun k c hne h0 j hj Y=>?_) (fun k c hne h0=>?_) (by rw[W];exact h.Po) (by omega) (by omega) (by rw[VX,VW,e04,e05];have:=h.zu;omega) (by show V.no+1<=200;omega) h.Pn (fun k c=>?_)
  ·rw[r]at c;show (if (ak d.S.l k).id=o.id then some b else V.aV (ak d.S.l k).id)=_;by_cases e:k=S.l.length
   ·rw[e,new,if_pos rfl,pl]
   ·have m:k<S.l.length:=by omega
    rw[(C k m).1,G k m];have:=h.aV k m;rw[if_neg (fun y=>by rw[y,U]at this;simp at this)];exact this
  ·have F:(if id=o.id then some b else V.aV id)=some L:=hb2;by_cases e:id=o.id
   ·rw[if_pos e]at F;refine⟨S.l.length,by rw[r];omega,by rw[new,e],?_⟩;rw[pl];exact Option.some.inj F
   ·rw[if_neg e]at F;obtain⟨k,c,D,y⟩:=h.yY id L F;exact⟨k,by rw[r];omega,by rw[(C k c).1];exact D,by rw[G k c];exact y⟩
  ·rw[r]at c;have m:k<S.l.length:=by omega
   obtain⟨_,o2,o3,K,_⟩:=C k m;rw[G k m,o3];rw[o2]at Y;exact h.Nb k m (K h0) j hj Y
  ·rw[r]at c;have m:k<S.l.length:=by omega
   obtain⟨_,_,_,K,o5⟩:=C k m;rw[o5,W];exact h.Nc k m (K h0)
  ·rw[r]at c;by_cases e:k=S.l.length
   ·rw[e,new];exact Xx
   ·rw[(C k (by omega)).1];exact h.xx k (by omega)
 ·have hrep:=u.report A q (aQ o) rfl (by rw[v.aX,f];simp only[ah]) (by unfold MS.tr;omega) (by rw[I];omega);rw[<-hrep];show kK (aQ o) (aI b (mF b s ⟨V.B i,aK V.om b (aQ o),V.lg.bf o.id⟩) b) V.tr ((iO b (mF b s ⟨V.B i,aK V.om b (aQ o),V.lg.bf o.id⟩)).tr.length:Int)=_;rw[<-f]
  rfl
 ·obtain⟨_,_,_,_,_,_,H,_⟩:=u.fin A q;rw[H,<-u.tp];show (iO b (mF b s ⟨V.B i,aK V.om b (aQ o),V.lg.bf o.id⟩)).tp=_;rw[<-f]
  rfl
 ·obtain⟨_,_,_,_,_,_,H,_⟩:=u.fin A q;rw[H];have:(S.fresh.add o).told.length=0:=rfl;have abT:d.S.told.length<=(S.fresh.add o).told.length+mu b s a:=hol;omega
def rQ(sy:List ByteArray)(s:ByteArray):Int:=if lL s=false then 3 else if jO sy s=true then 2 else if 6<=sy.length then 7 else 0
theorem vO(sy:List ByteArray)(s:ByteArray):(lL s=false/\rQ sy s=3)\/(lL s=true/\jO sy s=true/\rQ sy s=2)\/(lL s=true/\jO sy s=false/\decide ((sy.length:Int)>=6)=true/\rQ sy s=7)\/(lL s=true/\jO sy s=false/\decide ((sy.length:Int)>=6)=false/\rQ sy s=0):=by
 unfold rQ;cases h1:lL s
 ·left;simp
 ·cases h2:jO sy s
  ·by_cases a:6<=sy.length
   ·right;right;left;refine⟨rfl,rfl,?_,?_⟩
    ·simp;omega
    ·simp[a]
   ·right;right;right;refine⟨rfl,rfl,?_,?_⟩
    ·simp;omega
    ·simp[a]
  ·right;left;simp
theorem aav:(Tryz.prog.info? 9).map (fun i=>(i.zero.map (fun a=>a.cells.size),i.size,i.bytes))=some (some 1,1,16):=by kernel_rfl
theorem Hq:∃i a,Tryz.prog.info? 9=some i/\i.zero=some a/\i.size=1/\i.bytes=16/\a.cells.size=1:=by
 have h:=aav;cases hi:Tryz.prog.info? 9 with
 | none=>rw[hi]at h;simp at h
 | some i =>
   rw[hi]at h;simp at h;obtain⟨⟨a,d,hs⟩,b,c⟩:=h;exact⟨i,a,rfl,d,b,c,hs⟩
def RS.lists(S:RS)(s:ByteArray):RS:={ S with sy:=S.sy++[s] }
theorem dF.Yn{d w2:World}{base c n H g cap:Nat}{S:RS}{m:SM}{s:ByteArray}(h:dF d base c S m)(B:S.sy.length=n)(hown:w2.ownsRow base 9 1 (.slice (some ⟨g,0,none⟩) (n+1) cap) (n+1) (S.sy.map Value.string++[.string s]))(u:d.grownBy w2 m.yv.ownBlock)(A:m.yv.ownBlock=some g\/g=H)(hH:d.heap.size=H) :
 iZ base c (S.lists s) m d (w2.setCell ⟨c,0,none⟩ (.slice (some ⟨g,0,none⟩) (n+1) cap)):=by
 have C:m.yv.ownBlock≠some c:=fun e=>by obtain⟨cs,i⟩:=aF h.mZ e;exact au.ne i h.ay (by decide) rfl
 have f:au w2 c _ 207:=(u.block c h.ay.lt (fun e=>C e.symm)).trans h.ay;have w:aj (fun b=>m.yv.ownBlock=some b) d w2:=(aj.refl _ d).grown u (fun k e=>.inl e);have j:aj (fun b=>b=c) w2 (w2.setCell ⟨c,0,none⟩ (.slice (some ⟨g,0,none⟩) (n+1) cap)):=(aj.refl (fun b=>b=c) w2).setCell (p:=⟨c,0,none⟩) (.inl rfl) _;have l:∀{e size o:Nat} {v:Value} {q:List Value},d.ownsRow base e size v o q->e≠9->e≠207->(w2.setCell ⟨c,0,none⟩ (.slice (some ⟨g,0,none⟩) (n+1) cap)).ownsRow base e size v o q:=fun {e size o v q} r y z=>by
  have D:=bK (t:=0) r w (fun b a=>by obtain⟨cs,i⟩:=aF h.mZ a;exact⟨cs,_,i,fun x=>y x.symm⟩);exact bK (t:=0) D j (fun b a=>by subst a;exact⟨_,_,f,fun x=>z x.symm⟩)
 refine⟨{ m with yv:=.slice (some ⟨g,0,none⟩) (n+1) cap },⟨h.ge,f.set 0 _,?_,l h.dV (by decide) (by decide),l h.dJ (by decide) (by decide),l h.lZ (by decide) (by decide)⟩,?_,?_⟩
 ·simp only[RS.lists,List.length_append,List.length_cons,List.length_nil,B,List.map_append,List.map_cons,List.map_nil];exact bK (t:=0) hown j (fun b a=>by subst a;exact⟨_,_,f,by decide⟩)
 ·rintro b (rfl | a | a | a | a)
  ·exact .inl (.inl rfl)
  ·simp only[Value.ownBlock,Option.some.injEq]at a;rcases A with e | e
   ·exact .inl (.inr (.inl (by rw[e,a])))
   ·right;omega
  ·exact .inl (jL a)
  ·exact .inl (iQ a)
  ·exact .inl (xA a)
 ·exact (w.mono (fun b a=>.inr (.inl a))).trans (j.mono (fun b a=>.inl a))
theorem aaE(w:World)(s:ByteArray):∀j a,([.string s]:List Value)[j]?=some a->(w.alloc (.cells #[.string s] 9)).cell? (Addr.add ⟨w.heap.size,0,none⟩ j)=some a:=by
 intro j a c;have b:=au.new w #[.string s] 9;have e:Addr.add ⟨w.heap.size,0,none⟩ j=⟨w.heap.size,j,none⟩:=by simp[Addr.add];omega
 rw[e,b.cell,<-c];simp
theorem AQ(base d:Nat)(S:RS)(m:SM)(x:bD)(w:World)(h:dF w base d S m)(I:x.kind=108)(R:x.s.size<=1000000000)(H:S.sy.length<=1000)(F:rQ S.sy x.s≠0) :
 CT 138 #[PP d,x.val] w fun e w'=>e=.returned (.tuple #[dm 0 0 0 0 0,II (rQ S.sy x.s)])/\iZ base d S.fresh m w w':=by
 have MP:=h.ay.lt;have v5:CC w d 5 m.ov:=h.ay.cell 5;have W:=h.ay.frozen 5;have U:d≠w.heap.size:=by omega
 have T:d≠w.heap.size+1:=by omega
 have sz':=U.symm;have Yg:=T.symm;have ES:d<w.heap.size+1:=by omega
 have r:Hid (∀f,CT 166 #[.string x.s] f fun e w'=>e=.returned (.bool (lL x.s))/\w'=f):=fun f=>DJ x.s f R
 have o:Hid (∀f m',dF f base d S.fresh m'->CT 142 #[PP d,.string x.s] f fun e w'=>e=.returned (.bool (jO S.sy x.s))/\w'=f):=fun f m' P=>ku base d S.fresh m' x.s f P H
 obtain⟨L,M,q⟩:=aJ h.mZ;have k:=vO S.sy x.s;obtain⟨n,G⟩:=dQ S.sy.length;rw[G]at q k H;have v0:w.cell? ⟨d,0,none⟩=some (.slice L n M):=by rw[<-q];exact h.ay.cell 0
 obtain⟨V,E⟩:=dQ (rQ S.sy x.s);rw[E]at F k ⊢;obtain⟨B,A⟩:=dQ (lL x.s);obtain⟨C,D⟩:=dQ (jO S.sy x.s);rw[A]at k r;rw[D]at k o;obtain⟨kind,s,⟨id,K,sym,side,J,af,az⟩,a,b,c,again⟩:=x;simp only at I;subst I;simp only[bD.val,bD.cells,iR.val]at r o ⊢;have HS:=ai h;obtain⟨i,u,g,p⟩:=h.qy #[.int .u8 108,.string s,II id,II K,.string sym,II side,II J,II af,II az,II a,II b,II c,.bool again];obtain⟨j,t⟩:=gy ((((w.setCell ⟨d,5,none⟩ (.slice none 0 0)).alloc (.cells #[.int .u8 108,.string s,II id,II K,.string sym,II side,II J,II af,II az,II a,II b,II c,.bool again] 169)).alloc (.cells bC 87)));rw[<-t]at i u g p;have N:=ai (ae o _ _ i);have O:Hid (iZ base d S.fresh m w j):=iZ.qg (ae HS) u (iZ.refl i);obtain⟨y,z⟩:=aZ g t;have y1:CC j w.heap.size 1 (.string s):=p.cell 1;have y0:j.cell? ⟨d,0,none⟩=some (.slice L n M):=by rw[<-q];exact i.ay.cell 0
 have l0:w.heap.size<j.heap.size:=p.lt;have l1:d<j.heap.size:=i.ay.lt;obtain⟨z0,z1,z2,z3,z4⟩:=g.c5;have X:=g.frozen 0;have Y:=g.frozen 1;have Z:=g.frozen 2;have fz3:=g.frozen 3;have Qy:=g.frozen 4;simp only[bC]at z;clear i u g p o t h q G A D E;go_enter Tryz.func138,Tryz.ntmps138;go_wp2_with fail;rw[<-ae z];refine (ae r _).mono ?_;rintro e v ⟨rfl,l⟩;rw[l];clear l v;go_wp2_with fail;refine (ae N).mono ?_;rintro e v ⟨rfl,l⟩;rw[l];clear l v;rcases k with⟨rfl,rfl⟩ | ⟨rfl,rfl,rfl⟩ | ⟨rfl,rfl,Q,rfl⟩ | ⟨rfl,rfl,Q,rfl⟩
 case inr.inr.inr=>exact absurd rfl F
 all_goals
  go_wp2;refine bodyPost_ret (qx _ (w.heap.size+1) _ 0 0 0 0 0 _ rfl rfl ?_) rfl ⟨rfl,?_⟩
  ·exact uh (ae y) _ _ _ _ _
  ·exact (ae O).off (ae y) (by omega) (qE _ _ _ _ _)
theorem zf(bv d b:Nat)(V:aS)(id af az:Int)(w:World)(R:dL w bv d b V)(f:(Lit.int .i64 id).wf=true)(c:V.aV id=none) :
 CT 38 #[PP bv,II id,II af,II az] w fun e w'=>e=.returned (.tuple #[.agg #[II 0,II 0,II 0,II 0,II 0],II 6])/\aj aA w w':=by
 have g:aj aA w (w.alloc (.cells #[II 0,II 0,II 0,II 0,II 0] 87)):=(aj.refl aA w).alloc _;have a:=(R.ax g).ve f;rw[c]at a;simp only[ja]at a;have i:CC w bv 1 (.map (some b)):=R.cO.cell 1;have lv:=R.cO.lt;clear R c;go_enter Tryz.func38,Tryz.ntmps38;go_wp2;refine bodyPost_ret (IV _ w.heap.size _ 0 0 0 0 0 6 rfl rfl ?_) rfl ⟨rfl,?_⟩
 ·exact au.new w _ _
 ·exact (aj.refl aA w).alloc _
theorem Cb(bv g f b:Nat)(V:aS)(id af az:Int)(w:World)(R:dL w bv g f V)(j:(Lit.int .i64 id).wf=true)(a:V.aV id=some b)(h0:(V.om b).aH≠0)(k:cZ af=false\/(cZ af=true/\cZ az=false)) :
 CT 38 #[PP bv,II id,II af,II az] w fun e w'=>e=.returned (.tuple #[.agg #[II 0,II 0,II 0,II 0,II 0],II 4])/\aj aA w w':=by
 have l:aj aA w (w.alloc (.cells #[II 0,II 0,II 0,II 0,II 0] 87)):=(aj.refl aA w).alloc _;have d:=(R.ax l).ve j;rw[a]at d;simp only[ja]at d;obtain⟨-,o,c⟩:=R.bg id b a;have p:CC w b 8 (II (V.om b).aH):=c.cell 8;have m:((V.om b).aH == 0)=false:=by simp[h0]
 have q:CC w bv 1 (.map (some f)):=R.cO.cell 1;have lv:=R.cO.lt;have lo:=c.lt;clear R a c h0;rcases k with i | ⟨i,n⟩
 all_goals
  go_enter Tryz.func38,Tryz.ntmps38;go_wp2_with (first | (go_at_call 68;refine (bJ _ _).mono ?_;rintro e w' ⟨rfl,rfl⟩));refine bodyPost_ret (IV _ w.heap.size _ 0 0 0 0 0 4 rfl rfl ?_) rfl ⟨rfl,?_⟩
  ·exact au.new w _ _
  ·exact (aj.refl aA w).alloc _
theorem Kv(bv a t:Nat)(V:aS)(s:ByteArray)(w:World)(R:dL w bv a t V)(A:sJ s true)(z:s.size<=maxLen)(x:∀i,i<V.nb->(V.B i).sym≠s)(H:6<=V.nb):CT 27 #[PP bv,.string s] w fun e w'=>e=.returned (II 7)/\aj aA w w':=by
 obtain⟨f,d,u,g⟩:=R.iM;have m:f (sl s)=none:=by
  cases h:f (sl s) with
  | none=>rfl
  | some b =>
    obtain⟨i,y,_,v⟩:=g s b h;exact absurd v (x i y)
 have r:=ai m;obtain⟨n,o⟩:=dQ V.nb;have C:decide ((6:Int)<=(n:Int))=true:=by simp;omega
 have j:∀w',aj aA w w'->(Instr.lookup 94 (.map (some a)) (.string s) false).run Tryz.prog w'=.ok (.pointer none) w'/\w'.cell? ⟨bv,0,none⟩=some (.map (some a))/\(Builtin.len_ #[94] 3 #[.map (some a)]).run Tryz.prog w'=.ok (II (n:Int)) w':=fun w' k=>by
  refine⟨?_,(k.ay R.cO idd).cell 0,by rw[<-o];exact (d.aC k idd).len Tryz.underlying94 _⟩;rw[(d.aC k idd).look yU Tryz.underlying94 (qA _) (WideMaps.keyOf_string_mk Tryz.underlying9 z)];show _=Result.ok (ja none) _;rw[<-ae r];rfl
 have lv:=R.cO.lt;have p:=ai j;clear m R j o d u g;go_enter Tryz.func27,Tryz.ntmps27;go_wp2_with fail;refine (A _).mono ?_;rintro e w' ⟨rfl,k⟩;have c:=((aj.refl aA w).alloc (.cells #[PP bv] 35)).trans k;obtain⟨D,E,F⟩:=ae p w' c;have l:au w' w.heap.size #[PP bv] 35:=k.ay (au.new w _ _) idd;have G:CC w' w.heap.size 0 (PP bv):=l.cell 0;have q:=ai c;clear k c l;go_wp2;go_ret;exact⟨rfl,ae q⟩
theorem Et(bv a j:Nat)(V:aS)(s:ByteArray)(side:Int)(w:World)(R:dL w bv a j V)(o:s.size<=maxLen)(m:∀i,i<V.nb->(V.B i).sym≠s) :
 CT 25 #[PP bv,.string s,II side] w fun e w'=>e=.returned (.tuple #[.slice none 0 0,II 6])/\aj aA w w':=by
 obtain⟨c,g,k,d⟩:=R.iM;have f:c (sl s)=none:=by
  cases h:c (sl s) with
  | none=>rfl
  | some b =>
    obtain⟨i,n,_,l⟩:=d s b h;exact absurd l (m i n)
 have p:(Instr.lookup 94 (.map (some a)) (.string s) false).run Tryz.prog w=.ok (.pointer none) w:=by
  rw[g.look yU Tryz.underlying94 (qA _) (WideMaps.keyOf_string_mk Tryz.underlying9 o)];show _=Result.ok (ja none) _;rw[<-f];rfl
 have v0:CC w bv 0 (.map (some a)):=R.cO.cell 0;clear R f g k d;go_enter Tryz.func25,Tryz.ntmps25;go_wp2;go_ret2;exact⟨rfl,aj.refl _ _⟩
theorem JG(bv a b i:Nat)(V:aS)(side:Int)(w:World)(R:dL w bv a b V)(c:i<V.nb)(d:(V.B i).sym.size<=maxLen)(hs:jH side=false) :
 CT 25 #[PP bv,.string (V.B i).sym,II side] w fun e w'=>e=.returned (.tuple #[.slice none 0 0,II 4])/\aj aA w w':=by
 have f:=R.yJ c d;have v0:CC w bv 0 (.map (some a)):=R.cO.cell 0;clear R;go_enter Tryz.func25,Tryz.ntmps25;go_wp2_with (first | (go_at_call 47;refine (eu _ _).mono ?_;rintro e w' ⟨rfl,rfl⟩));go_ret2;exact⟨rfl,aj.refl _ _⟩
end Go.Proofs.YtigaphnafnpfnaaGreatDoor
