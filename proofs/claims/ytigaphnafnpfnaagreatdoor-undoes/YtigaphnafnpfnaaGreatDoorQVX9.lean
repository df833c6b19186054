import Derived.Laws.RangeString
import Derived.LoopN
import Derived.Test.YtigaphnafnpfnaaGreatDoorQVF4
set_option linter.unusedVariables false
set_option linter.unusedSimpArgs false
set_option maxHeartbeats 8000000
set_option maxRecDepth 100000
namespace Go.Proofs.YtigaphnafnpfnaaGreatDoor
open Go.RowKit
attribute [local go_sem ↓] Go.wp_at_zero Go.wp_at_succ
theorem dF.OQ{w:World}{base a:Nat}{S:RS}{m:SM}(h:dF w base a S m)(p:Int) :
 dF (w.setCell ⟨a,4,none⟩ (II p)) base a { S with places:=p } m/\aj (SF a m) w (w.setCell ⟨a,4,none⟩ (II p)):=by
 have k:aj (fun b=>b=a) w (w.setCell ⟨a,4,none⟩ (II p)):=(aj.refl (fun b=>b=a) w).setCell (p:=⟨a,4,none⟩) (.inl rfl) _;have ty:∀e,e≠207->∀b,b=a->∃c f,au w b c f/\f≠e:=fun e g b d=>by subst d;exact⟨_,_,h.ay,fun x=>g x.symm⟩
 exact⟨⟨h.ge,h.ay.set 4 _,bK (t:=0) h.mZ k (ty _ (by decide)),bK (t:=0) h.dV k (ty _ (by decide)),bK (t:=0) h.dJ k (ty _ (by decide)),bK (t:=0) h.lZ k (ty _ (by decide))⟩,k.mono (fun b d=>.inl d)⟩
theorem dF.FN{w:World}{base a:Nat}{S:RS}{m:SM}(h:dF w base a S m)(p:Int) :
 dF (w.setCell ⟨a,3,none⟩ (II p)) base a { S with day:=p } m/\aj (SF a m) w (w.setCell ⟨a,3,none⟩ (II p)):=by
 have k:aj (fun b=>b=a) w (w.setCell ⟨a,3,none⟩ (II p)):=(aj.refl (fun b=>b=a) w).setCell (p:=⟨a,3,none⟩) (.inl rfl) _;have ty:∀e,e≠207->∀b,b=a->∃c f,au w b c f/\f≠e:=fun e g b d=>by subst d;exact⟨_,_,h.ay,fun x=>g x.symm⟩
 exact⟨⟨h.ge,h.ay.set 3 _,bK (t:=0) h.mZ k (ty _ (by decide)),bK (t:=0) h.dV k (ty _ (by decide)),bK (t:=0) h.dJ k (ty _ (by decide)),bK (t:=0) h.lZ k (ty _ (by decide))⟩,k.mono (fun b d=>.inl d)⟩
theorem OB{l:List Ord}{i:Nat}{o:Ord}(h:i<l.length):ak (l.set i o) i=o:=wV (by rw[List.getElem?_set_self h])
def RS.kC(S:RS)(i:Nat)(n:Int):RS:={ S with places:=wrap64 (S.places+1),l:=S.l.set i { ak S.l i with place:=wrap64 (S.places+1),aH:=wrap64 ((ak S.l i).aH+n) } }
theorem IY(base d i:Nat)(S:RS)(m:SM)(n:Int)(w:World)(h:dF w base d S m)(z:S.l.length<=1000)(t:i<S.l.length) :
 CT 203 #[PP d,II (i:Int),II n] w fun e w'=>e=.returned (.tuple #[])/\dF w' base d (S.kC i n) m/\aj (SF d m) w w':=by
 obtain⟨N,v⟩:=dQ S.l.length;obtain⟨a,c,f⟩:=aJ h.dV;obtain⟨g,rfl,K,k,s⟩:=h.wW f t;obtain⟨q,p⟩:=aZ f t;rw[v]at f z t;have P:w.cell? ⟨d,1,none⟩=some (.slice (some ⟨g,0,none⟩) N c):=by rw[<-f];exact h.ay.cell 1
 have v4:CC w d 4 (II S.places):=h.ay.cell 4;have I:=h.ay.frozen 4;have M:=h.ay.lt;obtain⟨x,o⟩:=dQ (ak S.l i);rw[o]at k;have c8:CC w g (i * 13+8) (II x.aH):=k 8 _ rfl;have c12:CC w g (i * 13+12) (II x.place):=k 12 _ rfl;have J:=s (i * 13+8);have H:=s (i * 13+12);have A:d≠g:=fun e=>by
  have r:=h.dV;rw[ae q]at r;obtain⟨cs,y⟩:=aF r (b:=g) rfl;exact au.ne h.ay y (by decide) e
 have L:=A.symm;have O:¬i * 13+8=i * 13+12:=by omega
 have fin:dF (((w.setCell ⟨d,4,none⟩ (II (wrap64 (S.places+1)))).setCell ⟨g,i * 13+12,none⟩ (II (wrap64 (S.places+1)))).setCell ⟨g,i * 13+8,none⟩ (II (wrap64 (x.aH+n)))) base d (S.kC i n) m /\
  aj (SF d m) w (((w.setCell ⟨d,4,none⟩ (II (wrap64 (S.places+1)))).setCell ⟨g,i * 13+12,none⟩ (II (wrap64 (S.places+1)))).setCell ⟨g,i * 13+8,none⟩ (II (wrap64 (x.aH+n)))):=by
  obtain⟨B,E⟩:=h.OQ (wrap64 (S.places+1));obtain⟨C,F⟩:=B.iW (i:=i) (ae q) (ae p) (j:=12) (by omega) (II (wrap64 (S.places+1))) { x with place:=wrap64 (S.places+1) } (by simp only;rw[o];rfl);obtain⟨D,G⟩:=C.iW (i:=i) (by simp only[List.length_set];exact ae q) (by simp only[List.length_set];exact ae p) (j:=8) (by omega) (II (wrap64 (x.aH+n))) { x with place:=wrap64 (S.places+1),aH:=wrap64 (x.aH+n) } (by simp only;rw[OB (ae p)];rfl);refine⟨?_,(E.trans F).trans G⟩;have e:({ S with places:=wrap64 (S.places+1),l:=(S.l.set i { x with place:=wrap64 (S.places+1) }).set i { x with place:=wrap64 (S.places+1),aH:=wrap64 (x.aH+n) } }:RS)=S.kC i n:=by
   unfold RS.kC;rw[o,List.set_set]
  rw[<-e];exact D
 have u:=ai fin;clear fin k s h f o v;go_enter Tryz.func203,Tryz.ntmps203;go_wp2;go_region;go_wp2;go_region;go_wp2;go_end0;exact⟨rfl,(ae u).1.ax (aj.refl aA _).drew.drew,(ae u).2.drew.drew⟩
theorem Ll(base a i:Nat)(S:RS)(m:SM)(n:Int)(w:World)(h:dF w base a S m)(k:S.l.length<=1000)(j:i<S.l.length) :
 CT 203 #[PP a,II (i:Int),II n] w fun e w'=>e=.returned (.tuple #[])/\iZ base a (S.kC i n) m w w' :=
 (IY base a i S m n w h k j).mono (fun e w' ⟨c,d,f⟩=>⟨c,m,d,fun b g=>.inl g,f⟩)
open Go.RowKit Go.Maps Go.Lib
theorem FK{P:Program}(w:World)(s:ByteArray)(a c n:Nat)(ty:TypeId)(h:a<s.size)(b:Utf8.decode s a=(c,n)) :
 (Instr.next (PP w.heap.size) true ty).run P (w.iter s a) =
  .ok (.tuple #[.bool true,II a,.int .i32 c]) (w.iter s (a+n)):=by
 simp only[Instr.next,getObj,setObj,Sem.run_bind,Sem.run,World.iter_heap,Result.andThen,h,if_true,b,World.iter_set];simp[goInt,Sem.run,World.iter_heap,World.iter_set]
def sa:ByteArray:=⟨#[97]⟩
def sA:ByteArray:=⟨#[65]⟩
def mD(s:ByteArray):Bk:=⟨s,fun _=>none,fun _=>0,fun _=>0,fun _ _=>0,0⟩
theorem Gv(s:ByteArray)(w:World):CT 52 #[.string s] w fun e w'=>e=.returned (PP w.heap.size)/\au w' w.heap.size (mD s).cells 158/\aj aA w w':=by
 go_enter Tryz.func52,Tryz.ntmps52;go_wp2;go_ret;exact⟨rfl,au.new w _ _,(aj.refl aA w).alloc _⟩
def mY:aS:=⟨0,fun _=>0,fun _=>mD ⟨#[]⟩,fun _=>⟨0,0,⟨#[]⟩,0,0,0,0,0,0,0,0,0,0⟩,fun _=>none,0,⟨[],[],1,0,[],0⟩,⟨.slice none 0 0,.slice none 0 0,[],.slice none 0 0,[],.slice none 0 0,[]⟩⟩
theorem U2(w:World):CT 34 #[] w fun e w'=>∃bv f k,e=.returned (PP bv)/\dL w' bv f k mY/\aj aA w w'/\w.heap.size<=bv/\w.heap.size<=f/\w.heap.size<=k:=by
 have n:=@run_makeMap Tryz.prog;go_enter Tryz.func34,Tryz.ntmps34;go_wp2;go_ret;refine⟨w.heap.size+1+1,w.heap.size,w.heap.size+1,?_,?_,?_,by omega,by omega,by omega⟩
 ·rfl
 ·have m1:kG (((w.alloc (.map #[] 0)).alloc (.map #[] 0)).alloc (.cells #[.map (some w.heap.size),.map (some (w.heap.size+1)),.slice none 0 0,.slice none 0 0,II 1,.slice none 0 0,.slice none 0 0] 100)) 9 w.heap.size (fun _=>none) 0:=((kG.made w 9).aC ((aj.refl aA _).alloc _) idd).aC ((aj.refl aA _).alloc _) idd;have l:kG (((w.alloc (.map #[] 0)).alloc (.map #[] 0)).alloc (.cells #[.map (some w.heap.size),.map (some (w.heap.size+1)),.slice none 0 0,.slice none 0 0,II 1,.slice none 0 0,.slice none 0 0] 100)) 3 (w.heap.size+1) (fun _=>none) 0:=by
   have h:=(kG.made (w.alloc (.map #[] 0)) 3).aC ((aj.refl aA _).alloc (.cells #[.map (some w.heap.size),.map (some (w.heap.size+1)),.slice none 0 0,.slice none 0 0,II 1,.slice none 0 0,.slice none 0 0] 100)) idd;have e:(w.alloc (.map #[] 0)).heap.size=w.heap.size+1:=by simp
   rw[e]at h;exact h
  have m:au (((w.alloc (.map #[] 0)).alloc (.map #[] 0)).alloc (.cells #[.map (some w.heap.size),.map (some (w.heap.size+1)),.slice none 0 0,.slice none 0 0,II 1,.slice none 0 0,.slice none 0 0] 100)) (w.heap.size+1+1) (rZ w.heap.size (w.heap.size+1) mY.lm mY.lg.day) 100:=by
   have h:=au.qm (w.alloc (.map #[] 0)) (.map #[] 0) (rZ w.heap.size (w.heap.size+1) mY.lm mY.lg.day) 100;have e:(w.alloc (.map #[] 0)).heap.size=w.heap.size+1:=by simp
   rw[e]at h;exact h
  exact⟨⟨m,⟨World.ownsRow_nil _ _ _ _,World.ownsRow_nil _ _ _ _,rfl,fun i b g h=>by simp[mY]at h,List.nodup_nil,⟨World.ownsRow_nil _ _ _ _,fun a d=>by simp[mY]at d,List.nodup_nil,rfl,fun a d=>by simp[mY]at d⟩,World.ownsRow_nil _ _ _ _,Nat.zero_le _⟩⟩,⟨_,m1,fun i c=>absurd c (Nat.not_lt_zero i),fun s b h=>by simp at h⟩,⟨_,l,fun _=>rfl⟩,by omega,fun i c=>absurd c (Nat.not_lt_zero i),fun id b h=>by simp[mY]at h,fun i c=>absurd c (Nat.not_lt_zero i),fun i j c=>absurd c (Nat.not_lt_zero i),fun i j c=>absurd c (Nat.not_lt_zero i),Nat.zero_le _⟩
 ·exact (((aj.refl aA w).alloc _).alloc _).alloc _
def sJ(s:ByteArray)(b:Bool):Prop:=∀w,CT 50 #[.string s] w fun e w'=>e=.returned (.bool b)/\aj aA w w'
theorem Ou(bv:Nat)(s:ByteArray)(w:World)(a:sJ s false):CT 27 #[PP bv,.string s] w fun e w'=>e=.returned (II 3)/\aj aA w w':=by
 go_enter Tryz.func27,Tryz.ntmps27;go_wp2_with fail;refine (a _).mono ?_;rintro e w' ⟨rfl,k⟩;go_wp2;go_ret;exact⟨rfl,((aj.refl aA w).alloc _).trans k⟩
theorem Kw(bv a n i:Nat)(V:aS)(s:ByteArray)(w:World)(R:dL w bv a n V)(r:sJ s true)(q:s.size<=maxLen)(p:i<V.nb)(hs:(V.B i).sym=s):CT 27 #[PP bv,.string s] w fun e w'=>e=.returned (II 2)/\aj aA w w':=by
 obtain⟨u,g,c,o⟩:=R.iM;have b:=c i p;rw[hs]at b;have m:=ai b;have d:∀w',aj aA w w'->(Instr.lookup 94 (.map (some a)) (.string s) false).run Tryz.prog w'=.ok (PP (V.bk i)) w'/\w'.cell? ⟨bv,0,none⟩=some (.map (some a)):=fun w' k=>by
  refine⟨?_,(k.ay R.cO idd).cell 0⟩;rw[(g.aC k idd).look yU Tryz.underlying94 (qA _) (WideMaps.keyOf_string_mk Tryz.underlying9 q)];show _=Result.ok (ja (some (V.bk i))) _;rw[<-ae m];rfl
 have l:=ai d;clear b d hs g c o;go_enter Tryz.func27,Tryz.ntmps27;go_wp2_with fail;refine (r _).mono ?_;rintro e j ⟨rfl,k⟩;have v:CC j w.heap.size 0 (PP bv):=(k.ay (au.new w #[PP bv] 35) idd).cell 0;have f:=((aj.refl aA w).alloc (.cells #[PP bv] 35)).trans k;obtain⟨t,v0⟩:=ae l j f;go_wp2;go_ret;exact⟨rfl,f⟩
def aS.list(V:aS)(s:ByteArray)(b:Nat):aS:={ V with nb:=V.nb+1,bk:=aK V.bk V.nb b,B:=aK V.B V.nb (mD s) }
theorem wS(s:ByteArray)(x b:Nat):¬dn (mD s) x b:=by
 rintro (h | ⟨k,a,_⟩)
 ·simp[mD,ig]at h
 ·exact absurd a (Nat.not_lt_zero k)
theorem dL.list{w w':World}{bv u E b:Nat}{V:aS}{s:ByteArray}(R:dL w bv u E V)(Z:w.heap.size<=b)(N:au w' b (mD s).cells 158)(k:aj (fun x=>x=u) w w')(P:∀i,i<V.nb->(V.B i).sym≠s)
 (U:∃v,kG w' 9 u v (V.nb+1)/\v (sl s)=some b/\∃z,kG w 9 u z V.nb/\(∀i,i<V.nb->z (sl (V.B i).sym)=some (V.bk i))/\(∀s b,z (sl s)=some b->∃i,i<V.nb/\b=V.bk i/\(V.B i).sym=s)/\∀r,r≠s->v (sl r)=z (sl r)) :
 dL w' bv u E (V.list s b):=by
 obtain⟨v,W,F,z,q,K,L,G⟩:=U;obtain⟨I,X,J⟩:=R.fA;have ne:∀{b':Nat} {c:Array Value} {t:TypeId},au w b' c t->au w' b' c t:=fun h=>k.ay h (Ne.symm (q.ne h))
 have bk:∀i,i<V.nb->bM w' (V.bk i) (V.B i) V.om:=fun i d=>(R.aW i d).aC k (by
  rintro x (rfl | ⟨y,m,h⟩) e
  ·exact q.ne (R.aW i d).ay e.symm
  ·rcases h with h | ⟨l,n,rfl⟩
   ·rcases ((R.aW i d).side y m) with⟨h0,_⟩ | ⟨Y,M,Q⟩
    ·rw[h0]at h;simp[ig]at h
    ·obtain⟨cs,H,_⟩:=Q.sD;rw[M]at h;simp[ig]at h;rw[h]at H;exact q.ne H e.symm
   ·exact q.ne (((R.aW i d).side y m).bg n) e.symm)
 have lt:∀i,i<V.nb->V.bk i<w.heap.size:=fun i d=>(R.aW i d).ay.lt
 refine⟨R.aO.aC k (Ne.symm (q.ne R.cO)) (fun y m e=>by
  obtain⟨c,t',O,_⟩:=R.aO.aO.gZ m;exact q.ne O e.symm),⟨v,W,?_,?_⟩,⟨I,X.aC k (fun e=>R.F5 e.symm),J⟩,R.F5,?_,?_,?_,?_,?_,R.fM⟩
 ·intro i d;by_cases e:i=V.nb
  ·subst e;simp only[aS.list,ah];exact F
  ·have p:i<V.nb:=by simp only[aS.list]at d;omega
   simp only[aS.list,ag _ _ e];rw[G _ (P i p)];exact K i p
 ·intro r b' h;by_cases e:r=s
  ·subst e;rw[F]at h;simp only[Option.some.injEq]at h;exact⟨V.nb,by simp[aS.list],by simp only[aS.list,ah];exact h.symm,by simp only[aS.list,ah];rfl⟩
  ·rw[G _ e]at h;obtain⟨i,d,f,g⟩:=L r b' h;have:i≠V.nb:=by omega
   exact⟨i,by simp only[aS.list];omega,by simp only[aS.list,ag _ _ this];exact f,by simp only[aS.list,ag _ _ this];exact g⟩
 ·intro i d;by_cases e:i=V.nb
  ·subst e;simp only[aS.list,ah];exact⟨N,fun y m=>.inl ⟨rfl,rfl,rfl⟩,fun a h=>by simp[mD,ig]at h,fun l j n=>absurd n (Nat.not_lt_zero l)⟩
  ·have p:i<V.nb:=by simp only[aS.list]at d;omega
   simp only[aS.list,ag _ _ e];exact bk i p
 ·intro id x h;obtain⟨f,T,g⟩:=R.bg id x h;exact⟨f,T,ne g⟩
 ·intro i d y m l n;by_cases e:i=V.nb
  ·subst e;simp only[aS.list,ah]at n;exact absurd n (Nat.not_lt_zero l)
  ·have p:i<V.nb:=by simp only[aS.list]at d;omega
   simp only[aS.list,ag _ _ e]at n ⊢;exact R.mem i p y m l n
 ·intro i j d A C;simp only[aS.list]at d A ⊢;by_cases e:i=V.nb
  ·have o:j≠V.nb:=by omega
   rw[e,ah,ag _ _ o];have:=lt j (by omega);omega
  ·rw[ag _ _ e];by_cases o:j=V.nb
   ·rw[o,ah];have:=lt i (by omega);omega
   ·rw[ag _ _ o];exact R.rY i j (by omega) (by omega) C
 ·intro i j d A C x y S m D f g;simp only[aS.list]at d A f g;by_cases e:i=V.nb
  ·rw[e,ah]at f;exact wS s x D f
  ·by_cases o:j=V.nb
   ·rw[o,ah]at g;exact wS s y D g
   ·rw[ag _ _ e]at f;rw[ag _ _ o]at g;exact R.nX i j (by omega) (by omega) C x y S m D f g
open Go.RowKit Go.Maps
def Lg.mX(G:Lg)(k:Nat)(t:Tr):Lg:={ G with tr:=G.tr.set k ⟨t,false⟩ }
theorem fP.mX{w:World}{bv r s k b:Nat}{G:Lg}{m:Lm}{x:Tg}(h:bz w bv r s G m)(A:G.tr[k]?=some x)(q:m.tb[k]?=some b):bz (w.setCell ⟨b,7,none⟩ (.bool false)) bv r s (G.mX k x.t) m:=by
 have f:=h.aO.ay k b x q A;have j:aj (fun y=>y=b) w (w.setCell ⟨b,7,none⟩ (.bool false)):=(aj.refl (fun y=>y=b) w).setCell (p:=⟨b,7,none⟩) (.inl rfl) _;refine⟨j.ay h.cO (au.ne h.cO f (by decide)),?_⟩;have C:=aB h.aO.dJ j (fun y d e=>dC h.aO.dJ d f (by decide) e);refine⟨?_,aB h.aO.fQ j (fun y d e=>dC h.aO.fQ d f (by decide) e),by simp[Lg.mX,h.aO.len],fun i b' g o l=>?_,h.aO.nodup,h.aO.act.aC j (fun y d e=>?_),aB h.aO.lT j (fun y d e=>dC h.aO.lT d f (by decide) e),h.aO.jb⟩
 ·simp only[Lg.mX,List.length_set];exact C
 ·simp only[Lg.mX]at l;by_cases e:i=k
  ·subst e;obtain rfl:b'=b:=by rw[q]at o;exact (Option.some.inj o).symm
   have a:i<G.tr.length:=(List.getElem?_eq_some_iff.1 A).1;rw[List.getElem?_set_self a]at l;obtain rfl:=Option.some.inj l;exact f.set 7 _
  ·rw[List.getElem?_set_ne (fun h=>e h.symm)]at l;refine j.ay (h.aO.ay i b' g o l) (fun n=>e ?_);subst n;obtain⟨v,u⟩:=List.getElem?_eq_some_iff.1 o;obtain⟨z,n⟩:=List.getElem?_eq_some_iff.1 q;rcases Nat.lt_trichotomy i k with a | a | a
   ·exact absurd (u.trans n.symm) (List.pairwise_iff_getElem.1 h.aO.nodup i k v z a)
   ·exact a
   ·exact absurd (n.trans u.symm) (List.pairwise_iff_getElem.1 h.aO.nodup k i z v a)
 ·obtain⟨c,t,B,D⟩:=h.aO.act.gZ d;subst e;exact au.ne B f (by rcases D with rfl | rfl <;> decide) rfl
def WR(G G':Lg)(n:Nat):Prop:=G'.tr=G.tr/\G'.tp=G.tp/\G'.day=G.day/\G'.na=G.na/\G'.nt.length<=G.nt.length+n/\G'.ud=G.ud
def Lg.iI(G:Lg)(k tb:Nat)(t:Tr):Lg:=((G.begun.mX k t).told 2 t).aY [.jV tb]
end Go.Proofs.YtigaphnafnpfnaaGreatDoor
