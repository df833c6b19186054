import Derived.OpenShut
import Derived.Test.YtigaphnafnpfnaaGreatDoorQVV5
set_option linter.unusedVariables false
set_option linter.unusedSimpArgs false
set_option maxHeartbeats 8000000
set_option maxRecDepth 100000
namespace Go.Proofs.YtigaphnafnpfnaaGreatDoor
open Go.RowKit
attribute [local go_sem ↓] Go.wp_at_zero Go.wp_at_succ
theorem dF.Vg{w:World}{base o c:Nat}{a:Option Addr}{S:RS}{m:SM}(h:dF w base o S m)(n:m.tv=.slice a S.t.length c){i:Nat}{x:Tg}(e:S.t[i]?=some x):∃g,a=some ⟨g,0,none⟩/\base<=g/\g<w.heap.size/\(∃cs,au w g cs 210)/\(∀j d,(DW x)[j]?=some d->w.cell? ⟨g,i * 8+j,none⟩=some d)/\∀j,w.frozen? ⟨g,j,none⟩=false:=by
 have p:=(List.getElem?_eq_some_iff.1 e).1;have r:=h.dJ;rw[n]at r;obtain⟨g,rfl,k⟩:=gQ r (by omega);refine⟨g,rfl,k,(r.lt g rfl).2,aF r (b:=g) rfl,fun j d f=>?_,fun j=>r.frozenAt j⟩;have l:j<8:=by have:=(List.getElem?_eq_some_iff.1 f).1;rw[xh]at this;exact this
 rw[r.cellAt _ (by omega)];exact (ou DW 8 xh S.t i j _ e l).trans f
theorem vz(base b:Nat)(S:RS)(m:SM)(n:Int)(w:World)(h:dF w base b S m)(i:S.t.length<=1000000000)(j:n<1\/(S.t.length:Int)<n) :
 CT 204 #[PP b,II n] w fun e w'=>e=.returned (II 6)/\w'=w:=by
 obtain⟨a,c,d⟩:=aJ h.dJ;have v2:w.cell? ⟨b,2,none⟩=some (.slice a S.t.length c):=by rw[<-d];exact h.ay.cell 2
 clear h d;by_cases f:n<1
 ·go_enter Tryz.func204,Tryz.ntmps204;go_wp2;go_ret;exact⟨rfl,rfl⟩
 ·have g:(S.t.length:Int)<n:=by omega
  go_enter Tryz.func204,Tryz.ntmps204;go_wp2;go_ret;exact⟨rfl,rfl⟩
theorem nK(base f k:Nat)(S:RS)(m:SM)(n:Int)(x:Tg)(w:World)(h:dF w base f S m)(r:S.t.length<=1000000000)(p:n-1=(k:Int))(j:S.t[k]?=some x) :
 CT 204 #[PP f,II n] w fun e w'=>e=.returned (II (kZ x S.day))/\aj aA w w':=by
 obtain⟨a,c,d⟩:=aJ h.dJ;have q:=(List.getElem?_eq_some_iff.1 j).1;obtain⟨g,rfl,_,lg,_,i,_⟩:=h.Vg d j;obtain⟨N,l⟩:=dQ S.t.length;rw[l]at d q r;have v2:w.cell? ⟨f,2,none⟩=some (.slice (some ⟨g,0,none⟩) N c):=by rw[<-d];exact h.ay.cell 2
 have v3:CC w f 3 (II S.day):=h.ay.cell 3;have y:=h.ay.lt;have o:CC w g (k * 8+6) (II x.t.day):=i 6 _ rfl;have c7:CC w g (k * 8+7) (.bool x.holds):=i 7 _ rfl;obtain rfl:n=(k:Int)+1:=by omega
 have s:¬(k:Int)+1<1:=by omega
 have u:(k:Int)+1<=(N:Int):=by omega
 clear h d j i l p;cases hh:x.holds
 ·rw[hh]at c7;have e:kZ x S.day=10:=by unfold kZ;simp[hh]
  rw[e];clear hh e;go_enter Tryz.func204,Tryz.ntmps204;go_wp2;go_ret;exact⟨rfl,aj.refl _ _⟩
 ·rw[hh]at c7;by_cases b:x.t.day=S.day
  ·have e:kZ x S.day=0:=by unfold kZ;simp[hh,b]
   rw[e];rw[b]at o;clear hh e b;go_enter Tryz.func204,Tryz.ntmps204;go_wp2;go_quiet (fail);go_wp2;go_ret;exact⟨rfl,(aj.refl aA w).drewN _⟩
  ·have e:kZ x S.day=11:=by unfold kZ;simp[hh,b]
   rw[e];have v:(x.t.day == S.day)=false:=by simp[b]
   clear hh e;go_enter Tryz.func204,Tryz.ntmps204;go_wp2;go_quiet (fail);go_wp2;go_ret;exact⟨rfl,(aj.refl aA w).drewN _⟩
open Go.RowKit Go.Maps
theorem dL.KA{w:World}{bv a b:Nat}{V:aS}(R:dL w bv a b V){i:Nat}(c:i<V.nb)(d:(V.B i).sym.size<=maxLen)(q:Nat) :
 (Instr.lookup 94 (.map (some a)) (.string (V.B i).sym) false).run Tryz.prog (w.drewN q)=.ok (PP (V.bk i)) (w.drewN q) :=
 (R.ax ((aj.refl aA w).drewN q)).yJ c d
theorem Uo(bv a f i s:Nat)(V:aS)(w:World)(R:dL w bv a f V)(b:i<V.nb)(hs:s<2)(g:(V.B i).sym.size<=maxLen)(c:∀j,j<(V.B i).n s->(V.om ((V.B i).h s j)).side=(s:Int)) :
 CT 25 #[PP bv,.string (V.B i).sym,II s] w fun e w'=>∃v,e=.returned (.tuple #[v,II 0])/\zD V.om ((V.B i).n s) ((V.B i).h s) w v w':=by
 have l:=R.yJ b g;have v0:CC w bv 0 (.map (some a)):=R.cO.cell 0;have m:jH (s:Int)=true:=by
  have:s=0\/s=1:=by omega
  rcases this with rfl | rfl <;> rfl
 have d:=ai (J6 (V.bk i) s (V.B i) V.om w (R.aW i b) hs c);clear R c;go_enter Tryz.func25,Tryz.ntmps25;go_wp2_with (first | (go_at_call 47;refine (eu _ _).mono ?_;rintro e w' ⟨rfl,rfl⟩) | (go_at_call 48;refine (ae d).mono ?_;rintro e w2 ⟨v,rfl,k⟩));go_ret2;exact⟨v,rfl,k⟩
def ny(o:Ord):Ord:={ o with place:=0 }
theorem fC{a b:Ord}(h:ny a=ny b):a.id=b.id/\a.aG=b.aG/\a.sym=b.sym/\a.side=b.side/\a.kind=b.kind/\a.af=b.af/\a.az=b.az/\a.entered=b.entered/\a.aH=b.aH/\a.filled=b.filled/\a.aX=b.aX/\a.exp=b.exp:=by
 obtain⟨p,a2,a3,a4,a5,u,v,w,a9,q,r,s,t⟩:=a;obtain⟨x,C,D,E,F,G,H,I,J,y,z,A,B⟩:=b;simp only[ny,Ord.mk.injEq]at h;obtain⟨c,g,i,j,k,l,m,n,o,d,e,f,_⟩:=h;exact⟨c,g,i,j,k,l,m,n,o,d,e,f⟩
theorem MX{a b:Ord}(h:ny a=ny b):bI a=bI b:=by
 obtain⟨c,d,e,f,g,i,j,_⟩:=fC h;simp only[bI,c,d,e,f,g,i,j]
theorem J5{a b c:Ord}(f:a.side=b.side)(g:b.side=c.side)(d:jm a b=false)(e:jm c b=true):jm a c=false:=by
 rw[iF]at d ⊢;rw[qK]at e;rw[f,g]at d ⊢;split at d <;> split at e <;> (try split) <;> omega
theorem lD(l:List Ord)(o:iR):∀n,gX l o n=none↔∀k,k<n->fF o (ak l k)=false
 | 0=>by simp[gX]
 | n+1=>by
   have c:=lD l o n;unfold gX;by_cases a:fF o (ak l n)=true
   ·rw[if_pos a];constructor
    ·intro h;split at h
     ·simp at h
     ·split at h <;> simp at h
    ·intro h;have:=h n (by omega);rw[a]at this;exact absurd this (by decide)
   ·rw[if_neg a,c];constructor
    ·intro h k b;by_cases e:k=n
     ·subst e;simpa using a
     ·exact h k (by omega)
    ·intro h k b;exact h k (by omega)
theorem uu(l:List Ord)(o:iR)(s:Int)(hs:∀k,fF o (ak l k)=true->(ak l k).side=s):∀n b,gX l o n=some b->∀k,k<n->fF o (ak l k)=true->jm (ak l k) (ak l b)=false
 | 0,b,h,k,hk,_=>by omega
 | n+1,b,h,k,hk,hgk=>by
   unfold gX at h;by_cases a:fF o (ak l n)=true
   ·rw[if_pos a]at h;cases hb:gX l o n with
    | none =>
      rw[hb]at h;simp at h;subst h;have:=(lD l o n).1 hb;by_cases e:k=n
      ·subst e;rw[iF];split <;> omega
      ·have:=this k (by omega);rw[hgk]at this;exact absurd this (by decide)
    | some b' =>
      rw[hb]at h;simp only at h;have d:=mM l o n b' hb;by_cases c:jm (ak l n) (ak l b')=true
      ·rw[if_pos c]at h;simp at h;subst h;by_cases e:k=n
       ·subst e;rw[iF];split <;> omega
       ·exact J5 (by rw[hs k hgk,hs b' d]) (by rw[hs b' d,hs n a]) (uu l o s hs n b' hb k (by omega) hgk) c
      ·rw[if_neg c]at h;simp at h;subst h;by_cases e:k=n
       ·subst e;simpa using c
       ·exact uu l o s hs n b' hb k (by omega) hgk
   ·rw[if_neg a]at h;by_cases e:k=n
    ·subst e;exact absurd hgk a
    ·exact uu l o s hs n b h k (by omega) hgk
structure wF(p:Nat->Nat)(oc i s:Nat)(B:Bk)(om:Nat->Ord)(l:List Ord)(sym:ByteArray):Prop where
 il:i<l.length
 pi:p i=oc
 inj:∀a b,a<l.length->b<l.length->p a=p b->a=b
 same:∀k,k<l.length->k≠i->ny (om (p k))=ny (ak l k)
 self:ny { om oc with aH:=0 }=ny (ak l i)
 place:∀a b,a<l.length->b<l.length->a≠i->b≠i->(ak l a).sym=(ak l b).sym->0<(ak l a).aH->0<(ak l b).aH->((om (p a)).place<(om (p b)).place↔(ak l a).place<(ak l b).place)
 wI:∀a b,a<l.length->b<l.length->a≠i->b≠i->a≠b->(ak l a).sym=(ak l b).sym->0<(ak l a).aH->0<(ak l b).aH->(ak l a).place≠(ak l b).place
 mem:∀x,Mem (B.n s) (B.h s) x↔∃k,k<l.length/\k≠i/\p k=x/\(ak l k).sym=sym/\(ak l k).side=(s:Int)/\0<(ak l k).aH
 U6:(ak l i).sym=sym
 Na:(ak l i).side=1-(s:Int)
 side:∀k,k<l.length->(ak l k).side=0\/(ak l k).side=1
 aH:∀k,k<l.length->0<=(ak l k).aH
section
variable {p : Nat -> Nat} {oc i s : Nat} {B : Bk} {om : Nat -> Ord} {l : List Ord} {sym : ByteArray}
theorem wF.ask(h:wF p oc i s B om l sym):bI (om oc)=bI (ak l i):=by
 have:=MX h.self;rw[<-this]
 rfl
theorem RG{l:List Ord}{k:Nat}(h:¬k<l.length):(ak l k).aH=0:=by
 unfold ak;rw[List.getD_eq_getElem?_getD,List.getElem?_eq_none (by omega)]
 rfl
theorem wF.JW(h:wF p oc i s B om l sym)(hs:s<2)(k:Nat):fF (bI (ak l i)) (ak l k)=true↔(k<l.length/\k≠i/\(ak l k).sym=sym/\(ak l k).side=(s:Int)/\0<(ak l k).aH/\iC (ak l i).kind (ak l i).side (ak l i).af (ak l k).af=true):=by
 unfold fF;simp only[Bool.and_eq_true,Bool.not_eq_true',beq_eq_false_iff_ne,ne_eq,decide_eq_true_eq];simp only[bI];rw[h.U6];constructor
 ·rintro⟨⟨⟨d,f⟩,b⟩,c⟩;have a:k<l.length:=by
   by_cases a:k<l.length
   ·exact a
   ·exact absurd (RG a) d
  have:=h.aH k a;have:=h.side k a;have:=h.Na;exact⟨a,fun e=>by subst e;exact b rfl,f,by omega,by omega,c⟩
 ·rintro⟨d,f,b,c,j,g⟩;have:=h.Na;exact⟨⟨⟨by omega,b⟩,by rw[c,this];omega⟩,g⟩
theorem wF.ab7(h:wF p oc i s B om l sym){a b:Nat}(c:a<l.length)(e:b<l.length)(d:a≠i)(f:b≠i)(k:(ak l a).sym=(ak l b).sym)(g:0<(ak l a).aH)(j:0<(ak l b).aH):jm (om (p a)) (om (p b))=jm (ak l a) (ak l b):=by
 obtain⟨_,_,_,o,_,m,_⟩:=fC (h.same a c d);obtain⟨_,_,_,q,_,n,_⟩:=fC (h.same b e f);have pl:=h.place a b c e d f k g j;rw[Bool.eq_iff_iff,qK,qK,o,m,n];exact or_congr Iff.rfl (and_congr Iff.rfl pl)
theorem wF.fJ(h:wF p oc i s B om l sym)(hs:s<2)(O:ed (fE om) (B.n s) (B.h s)):(eP l (bI (ak l i))).map p=dA B om (bI (om oc)) s:=by
 have R:∀k,fF (bI (ak l i)) (ak l k)=true->(ak l k).side=(s:Int):=fun k d=>((h.JW hs k).1 d).2.2.2.1
 have F:∀k,fF (bI (ak l i)) (ak l k)=true->Mem (B.n s) (B.h s) (p k):=fun k d=>by
  obtain⟨a,b,c,q,e,_⟩:=(h.JW hs k).1 d;exact (h.mem _).2 ⟨k,a,b,rfl,c,q,e⟩
 have S:∀k,k<B.n s->(om (B.h s k)).side=(s:Int):=fun k d=>by
  obtain⟨j,T,U,V,_,W,_⟩:=(h.mem _).1 ⟨k,d,rfl⟩;rw[<-V,(fC (h.same j T U)).2.2.2.1];exact W
 have P:=A7 (l9 om (s:Int)) O S;by_cases E:B.n s=0
 ·have:eP l (bI (ak l i))=none:=by
   unfold eP;rw[lD];intro k d;cases g:fF (bI (ak l i)) (ak l k)
   ·rfl
   ·obtain⟨j,C,_⟩:=F k g;omega
  rw[this];unfold dA;rw[if_pos E]
  rfl
 ·obtain⟨r,m,t,w,x,G,y⟩:=(h.mem _).1 ⟨0,by omega,rfl⟩;have Q:(om (B.h s 0)).af=(ak l r).af:=by rw[<-w];exact (fC (h.same r m t)).2.2.2.2.2.1
  have D:∀k,fF (bI (ak l i)) (ak l k)=true->jm (ak l k) (ak l r)=false:=fun k d=>by
   obtain⟨a,b,c,q,e,_⟩:=(h.JW hs k).1 d;rw[<-h.ab7 a m b t (by rw[c,x]) e y];obtain⟨j,C,M⟩:=F k d;have:=P j C;rw[<-M,<-w]at this;exact this
  have N:=h.ask;unfold dA;rw[if_neg E,N,Q];by_cases g:iC (ak l i).kind (ak l i).side (ak l i).af (ak l r).af=true
  ·rw[if_pos (show iC (bI (ak l i)).kind (bI (ak l i)).side (bI (ak l i)).af (ak l r).af=true from g)];have A:fF (bI (ak l i)) (ak l r)=true:=(h.JW hs r).2 ⟨m,t,x,G,y,g⟩;cases hb:eP l (bI (ak l i)) with
   | none =>
     have:=(lD l _ _).1 hb r m;rw[A]at this;exact absurd this (by decide)
   | some b =>
     have z:=mM l _ _ b hb;have m1:=uu l _ (s:Int) R _ b hb r m A;have f:=D b z;obtain⟨H,I,J,K,L,_⟩:=(h.JW hs b).1 z;have e:b=r:=by
      by_cases e:b=r
      ·exact e
      ·have:=h.wI b r H m I t e (by rw[J,x]) L y;rw[iF]at m1 f;rw[G]at m1;rw[K]at f;split at m1 <;> split at f <;> omega
     subst e;simp[w]
  ·rw[if_neg (show ¬iC (bI (ak l i)).kind (bI (ak l i)).side (bI (ak l i)).af (ak l r).af=true from g)];have:eP l (bI (ak l i))=none:=by
    unfold eP;rw[lD];intro k d;cases hgk:fF (bI (ak l i)) (ak l k)
    ·rfl
    ·exfalso;apply g;obtain⟨a,b,c,q,e,o⟩:=(h.JW hs k).1 hgk;have f:=D k hgk;rw[iF]at f;have os:=h.Na;unfold iC at o ⊢;rw[q]at f;split at o
     ·rename_i u;rw[if_pos u]
     ·rename_i u;rw[if_neg u];split at o
      ·rename_i v;rw[if_pos v];simp only[decide_eq_true_eq]at o ⊢;rw[if_neg (by omega)]at f;omega
      ·rename_i v;rw[if_neg v];simp only[decide_eq_true_eq]at o ⊢;rw[if_pos (by omega)]at f;omega
   rw[this]
   rfl
end
def Lg.dE(G:Lg)(b:Nat)(o:Ord):Lg:=G.begun.aY [.left b,.fV b o]
theorem IV(tmps:Array Value)(H:Nat)(w:World)(a b c f e d:Int)(g:tmps.getD 8 undef=PP H)(i:tmps.getD 9 undef=II d)(m:au w H #[II a,II b,II c,II f,II e] 87) :
 (results Tryz.f38 tmps).run Tryz.prog w=.ok (.tuple #[.agg #[II a,II b,II c,II f,II e],II d]) w:=by
 obtain⟨c0,c1,j,k,l⟩:=m.c5;simp only[Array.getD_eq_getD_getElem?]at g i;simp[results,Tryz.results38,go_sem,g,i,c0,c1,j,k,l]
theorem AY(bv g f b:Nat)(V:aS)(id af az:Int)(w:World)(R:dL w bv g f V)(i:(Lit.int .i64 id).wf=true)(a:V.aV id=some b)(h0:(V.om b).aH=0) :
 CT 38 #[PP bv,II id,II af,II az] w fun e w'=>e=.returned (.tuple #[.agg #[II 0,II 0,II 0,II 0,II 0],II 10])/\aj aA w w':=by
 have j:aj aA w (w.alloc (.cells #[II 0,II 0,II 0,II 0,II 0] 87)):=(aj.refl aA w).alloc _;have d:=(R.ax j).ve i;rw[a]at d;simp only[ja]at d;obtain⟨-,k,c⟩:=R.bg id b a;have l:w.cell? ⟨b,8,none⟩=some (II 0):=by rw[<-h0];exact c.cell 8
 have m:CC w bv 1 (.map (some f)):=R.cO.cell 1;have lv:=R.cO.lt;have lo:=c.lt;clear R a c h0;go_enter Tryz.func38,Tryz.ntmps38;go_wp2;refine bodyPost_ret (IV _ w.heap.size _ 0 0 0 0 0 10 rfl rfl ?_) rfl ⟨rfl,?_⟩
 ·exact au.new w _ _
 ·exact (aj.refl aA w).alloc _
def dR(o:Ord)(af az:Int):Ord:={ o with af:=af,entered:=wrap64 (o.entered+wrap64 (az-o.aH)),aH:=az }
theorem NH(b:Nat)(o:Ord)(f af az:Int)(w:World)(d:bV w b o f) :
 CT 69 #[PP b,II af,II az] w fun e w'=>e=.returned (.func (.func 151) #[] #[PP (w.heap.size+1),PP w.heap.size])/\xE w' w.heap.size b o/\bV w' b (dR o af az) f/\aj (fun x=>x=b) w w':=by
 have j:=ai (oJ b o f w d);have lo:=d.lt;go_enter Tryz.func69,Tryz.ntmps69;go_wp2_with fail;refine (ae j).mono ?_;rintro e c ⟨rfl,k,g⟩;have a:=g.ay d idd;have r:CC c b 7 (II o.entered):=au.cell a 7;have s:CC c b 8 (II o.aH):=au.cell a 8;have q:CC c b 5 (II o.af):=au.cell a 5;have m:=au.frozen a 7;have n:=au.frozen a 8;have l:=au.frozen a 5;go_wp2;go_region;go_wp2;go_ret;have i:=((((aj.refl (fun x=>x=b) c).setCell (p:=⟨b,7,none⟩) (.inl rfl) (II (wrap64 (o.entered+wrap64 (az-o.aH))))).setCell (p:=⟨b,8,none⟩) (.inl rfl) (II az)).setCell (p:=⟨b,5,none⟩) (.inl rfl) (II af)).drew;refine⟨rfl,k.aC i (by omega) (by omega),?_,g.aP.trans i⟩;have:=((a.set 7 (II (wrap64 (o.entered+wrap64 (az-o.aH))))).set 8 (II az)).set 5 (II af);exact this
theorem Gj(c b:Nat)(B:Bk)(om:Nat->Ord)(a:Nat->Prop)(af az:Int)(w:World)(m:Mk w c B om a)(j:a b) :
 CT 69 #[PP b,II af,II az] w fun e w'=>∃fn d,e=.returned (.func fn #[] d)/\jT w' b (om b) w.heap.size fn d/\Mk w' c B (aK om b (dR (om b) af az)) a/\aj (fun x=>x=b) w w':=by
 obtain⟨k,g⟩:=m.bg b j;refine (NH b (om b) k af az w g).mono ?_;rintro e w' ⟨rfl,h0,i,f⟩;exact⟨_,_,rfl,⟨rfl,_,Nat.le_refl _,rfl,h0⟩,m.aK g f i,f⟩
def qU(o:Ord)(n:Int):Ord:={ o with filled:=wrap64 (o.filled-n) }
def RS.kN(S:RS)(i:Nat)(n:Int):RS:=S.dN i (qU (ak S.l i) n)
def RS.pU(S:RS)(i:Nat)(n:Int)(again:Bool):Bool:=again && (dS (ak S.l i).kind && (eP (S.kN i n).l (bI (ak S.l i))).isNone)
def RS.bZ(S:RS)(i:Nat)(n:Int)(again:Bool):RS :=
 if S.pU i n again=true then (S.kN i n).kC i n else S.dN i { qU (ak S.l i) n with aX:=wrap64 ((ak S.l i).aX+n) }
theorem DK(base d i:Nat)(S:RS)(m:SM)(id n:Int)(again:Bool)(w:World)(h:dF w base d S m)(hlen:S.l.length<=1000)(Q:iU S.l id=some i) :
 CT 206 #[PP d,II id,II n,.bool again] w fun e w'=>e=.returned (.tuple #[])/\dF w' base d (S.bZ i n again) m/\aj (SF d m) w w':=by
 have P:=(jC Q).1;obtain⟨N,G⟩:=dQ S.l.length;have I:i<N:=by omega
 obtain⟨o,z⟩:=dQ (ak S.l i);have X:Hid (CT 141 #[PP d,II id] w fun e w'=>e=.returned (II (i:Int))/\w'=w):=by
  have:=pK base d S m id w h hlen;rw[Q]at this;exact this
 obtain⟨g,c,v1,R,hsg,lg,Ae,hcl,hf⟩:=h.SG G (by omega);have O:=hcl i I;rw[z]at O;have c9:CC w g (i * 13+9) (II o.filled):=O 9 _ rfl;have f9:=hf (i * 13+9);have MP:=h.ay.lt;obtain⟨f,H⟩:=gy ((w.setCell ⟨g,i * 13+9,none⟩ (II (wrap64 (o.filled-n)))).drew);obtain⟨p0,q0⟩:=h.iW R P (j:=9) (by omega) (II (wrap64 (o.filled-n))) (qU o n) (by rw[z];rfl);have A:dF f base d (S.kN i n) m:=by
  rw[H];have:S.kN i n={ S with l:=S.l.set i (qU o n) }:=by unfold RS.kN RS.dN;rw[z]
  rw[this];exact p0.ax (aj.refl aA _).drew
 have k1:aj (SF d m) w f:=by rw[H];exact q0.drew
 have y:(S.kN i n).l.length=N:=by simp[RS.kN,RS.dN,G]
 have U:ak (S.kN i n).l i=qU o n:=by unfold RS.kN RS.dN;simp only;rw[dB P,z]
 obtain⟨p,Z,v1',T,abW,lg',Xv,Z8,hf'⟩:=A.SG y (by omega);obtain⟨rfl,rfl⟩:p=g/\Z=c:=by
  have e:=R.symm.trans T;rw[y,G]at e;simp only[Value.slice.injEq,Option.some.injEq,Addr.mk.injEq,and_true,true_and]at e;exact⟨e.1.symm,e.2.symm⟩
 have u:=Z8 i I;rw[U]at u;have d0:CC f p (i * 13) (II o.id):=u 0 _ rfl;have d1:CC f p (i * 13+1) (II o.aG):=u 1 _ rfl;have d2:CC f p (i * 13+2) (.string o.sym):=u 2 _ rfl;have d3:CC f p (i * 13+3) (II o.side):=u 3 _ rfl;have d4:CC f p (i * 13+4) (II o.kind):=u 4 _ rfl;have d5:CC f p (i * 13+5) (II o.af):=u 5 _ rfl;have d6:CC f p (i * 13+6) (II o.az):=u 6 _ rfl;have d10:CC f p (i * 13+10) (II o.aX):=u 10 _ rfl;have f10:=hf' (i * 13+10);have L:=ai (vW o.kind f);have W:Hid (CT 199 #[PP d,.agg #[II o.id,II o.aG,.string o.sym,II o.side,II o.kind,II o.af,II o.az]] f fun e w'=>e=.returned (II (oi (eP (S.kN i n).l (bI o))))/\aj aA f w'):=xX base d (S.kN i n) m (bI o) f A (by omega);have HSt:Hid (∀q,aj aA f q->CT 203 #[PP d,II (i:Int),II n] q fun e w'=>e=.returned (.tuple #[])/\dF w' base d ((S.kN i n).kC i n) m/\aj (SF d m) q w'):=fun q k=>IY base d i (S.kN i n) m n q (A.ax k) (by rw[y];omega) (by rw[y];exact I)
 have K:Hid (∀q,aj aA f q->dF (q.setCell ⟨p,i * 13+10,none⟩ (II (wrap64 (o.aX+n)))) base d (S.dN i { qU o n with aX:=wrap64 (o.aX+n) }) m/\aj (SF d m) q (q.setCell ⟨p,i * 13+10,none⟩ (II (wrap64 (o.aX+n))))):=fun q k=>by
  obtain⟨F,a2⟩:=(A.ax k).iW (i:=i) T (by rw[y];exact I) (j:=10) (by omega) (II (wrap64 (o.aX+n))) { qU o n with aX:=wrap64 (o.aX+n) } (by rw[U];rfl);refine⟨?_,a2⟩;have:({ S.kN i n with l:=(S.kN i n).l.set i { qU o n with aX:=wrap64 (o.aX+n) } }:RS)=S.dN i { qU o n with aX:=wrap64 (o.aX+n) }:=by
   unfold RS.kN RS.dN;simp only[List.set_set]
  rw[<-this];exact F
 obtain⟨C,HW1⟩:=aZ k1 H;obtain⟨Y,M⟩:=dQ (eP (S.kN i n).l (bI o));obtain⟨rs,V⟩:=dQ (dS o.kind);have E:Hid (S.bZ i n again=if (again && (rs && Y.isNone))=true then (S.kN i n).kC i n else S.dN i { qU o n with aX:=wrap64 (o.aX+n) }):=by
  show _=_;unfold RS.bZ RS.pU;rw[z,M,V]
 rw[M]at W;rw[V]at L;have D:=ai A;clear h p0 q0 A k1 hcl O Z8 u hf hf' R T Ae Xv z Q U y H M V G hlen P abW hsg;have ES:d<f.heap.size:=(ae D).ay.lt;go_enter Tryz.func206,Tryz.ntmps206;go_wp2_with fail;refine (ae X).mono ?_;rintro e w2 ⟨rfl,B⟩;rw[B];clear B w2 X;go_wp2;go_region;rw[<-ae HW1];go_wp2_with fail;refine (ae L).mono ?_;rintro e w2 ⟨rfl,B⟩;rw[B];clear B w2 L c9 f9 v1 lg;cases again
 ·have r:S.bZ i n false=S.dN i { qU o n with aX:=wrap64 (o.aX+n) }:=(ae E).trans (if_neg (by simp));have s:=ae K f (aj.refl aA f);have v:dF ((f.setCell ⟨p,i * 13+10,none⟩ (II (wrap64 (o.aX+n)))).drew) base d (S.bZ i n false) m/\aj (SF d m) w ((f.setCell ⟨p,i * 13+10,none⟩ (II (wrap64 (o.aX+n)))).drew):=by
   rw[r];exact⟨s.1.ax (aj.refl aA _).drew,((ae C).trans ((aj.refl (SF d m) f).trans s.2)).drew⟩
  have x:=ai v;clear v s r;go_wp2;go_region;go_wp2;go_end0;exact⟨rfl,ae x⟩
 ·cases rs
  ·have r:S.bZ i n true=S.dN i { qU o n with aX:=wrap64 (o.aX+n) }:=(ae E).trans (if_neg (by simp));have s:=ae K f (aj.refl aA f);have v:dF ((f.setCell ⟨p,i * 13+10,none⟩ (II (wrap64 (o.aX+n)))).drew) base d (S.bZ i n true) m/\aj (SF d m) w ((f.setCell ⟨p,i * 13+10,none⟩ (II (wrap64 (o.aX+n)))).drew):=by
    rw[r];exact⟨s.1.ax (aj.refl aA _).drew,((ae C).trans ((aj.refl (SF d m) f).trans s.2)).drew⟩
   have x:=ai v;clear v s r;go_wp2;go_region;go_wp2;go_end0;exact⟨rfl,ae x⟩
  ·go_wp2_with fail;refine (ae W).mono ?_;rintro e w2 ⟨rfl,t⟩;have e0:CC w2 d 1 (.slice (some ⟨p,0,none⟩) N Z):=t.cell v1' idd;have e10:CC w2 p (i * 13+10) (II o.aX):=t.cell d10 idd;have acu:w2.frozen? ⟨p,i * 13+10,none⟩=false:=by
    obtain⟨cs,hcs⟩:=aF (ae D).dV (b:=p) (by obtain⟨a,c,hv⟩:=aJ (ae D).dV;have:=(ae D).ay.cell 1;rw[hv]at this;rw[hv];have h3:=this.symm.trans v1';simp at h3;rw[h3.1];rfl);exact (t.ay hcs idd).frozen _
   have YE:p<w2.heap.size:=Nat.lt_of_lt_of_le lg' t.size;have VV:d<w2.heap.size:=Nat.lt_of_lt_of_le ES t.size;cases Y with
   | none =>
     have HT:=ai (ae HSt w2 t);have r:S.bZ i n true=(S.kN i n).kC i n:=(ae E).trans (if_pos rfl);obtain⟨Nz,HUU⟩:=aZ t r;clear t r;simp only[oi];go_wp2_with fail;refine (ae HT).mono ?_;rintro e J ⟨rfl,F,a3⟩;have x:Hid (dF J base d (S.bZ i n true) m/\aj (SF d m) w J):=by
      show dF J base d (S.bZ i n true) m/\aj (SF d m) w J;rw[ae HUU];exact⟨F,(ae C).trans ((ae Nz).aP.trans a3)⟩
     clear F a3;go_wp2;refine bodyPost_ret (results_none rfl _ _ _) rfl ?_;exact⟨rfl,ae x⟩
   | some b =>
     have r:S.bZ i n true=S.dN i { qU o n with aX:=wrap64 (o.aX+n) }:=(ae E).trans (if_neg (by simp));have s:=ae K w2 t;have v:dF ((w2.setCell ⟨p,i * 13+10,none⟩ (II (wrap64 (o.aX+n)))).drew) base d (S.bZ i n true) m/\aj (SF d m) w ((w2.setCell ⟨p,i * 13+10,none⟩ (II (wrap64 (o.aX+n)))).drew):=by
      rw[r];exact⟨s.1.ax (aj.refl aA _).drew,((ae C).trans (t.aP.trans s.2)).drew⟩
     have x:=ai v;have hb0:¬((b:Nat):Int)<0:=by omega
     clear v s r t;simp only[oi];go_wp2;go_region;go_wp2;go_end0;exact⟨rfl,ae x⟩
end Go.Proofs.YtigaphnafnpfnaaGreatDoor
