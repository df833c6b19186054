import Derived.Test.YtigaphnafnpfnaaGreatDoorQNX0
set_option linter.unusedVariables false
set_option linter.unusedSimpArgs false
set_option maxHeartbeats 8000000
set_option maxRecDepth 100000
namespace Go.Proofs.YtigaphnafnpfnaaGreatDoor
open Go.RowKit Go.Maps
attribute [local go_sem ↓] Go.wp_at_zero Go.wp_at_succ
def xA(f:Lit->Option Nat)(kl:Lit):Lit->Option Nat:=fun k=>if k.sameKey kl then none else f k
theorem rF{f:Lit->Option Nat}{kl:Lit}(hk:WideAt.IsKeyLit kl):xA f kl kl=none:=by
 unfold xA;rw[if_pos (WideAt.sameKey_self hk)]
theorem ng{f:Lit->Option Nat}{kl k':Lit}(hk:WideAt.IsKeyLit kl)(hne:k'≠kl):xA f kl k'=f k':=by
 unfold xA;rw[if_neg (fun h=>hne ((WideAt.sameKey_iff hk).1 h))]
theorem kG.drop{w:World}{k t e:TypeId}{b:Nat}{f:Lit->Option Nat}{n:Nat}(h:kG w k b f (n+1))(K:Keyed Tryz.prog k)(ht:Tryz.prog.underlying t=some (.map k e)){key:Value}{kl:Lit}(hkey:keyOf Tryz.prog k key=some kl)(hk:WideAt.IsKeyLit kl){x:Nat}(hf:f kl=some x)(ty:TypeId) :
 ∃w',(Builtin.delete_ #[t,k] ty #[.map (some b),key]).run Tryz.prog w=.ok (.tuple #[]) w'/\kG w' k b (xA f kl) n/\aj (fun i=>i=b) w w':=by
 obtain⟨D,h1,h2,h3,h4⟩:=h;obtain⟨w',hrun,h5,h6⟩:=h1.drop K ht hkey ty;have hsz:Maps.size (D.del kl)=n:=by
  have:=size_del (k:=kl) (h1.tidy K);rw[h4 kl,hf]at this;simp at this;omega
 refine⟨w',hrun,⟨D.del kl,?_,hsz,fun k'=>?_,fun k'=>?_⟩,?_⟩
 ·obtain⟨es,clock,hb,F,hs,hD⟩:=h5;refine⟨es,clock,hb,F,?_,hD⟩;rw[hD]at hsz;simp[Maps.size,length_sorted]at hsz;omega
 ·by_cases e:k'=kl
  ·subst e;rw[atKey_del_same,rF hk];rfl
  ·rw[atKey_del_other e,h3,ng hk e]
 ·by_cases e:k'=kl
  ·subst e;rw[has_del_same,rF hk];rfl
  ·rw[has_del_other e,h4,ng hk e]
 ·obtain⟨es,clock,es',clock',hb,rfl⟩:=h6;refine⟨rfl,rfl,rfl,by simp[ChangeMaps.setBlock],fun i hi hne=>?_⟩;simp[ChangeMaps.setBlock,Array.getElem?_setIfInBounds,Ne.symm hne]
def aS.zy(V:aS)(id:Int):aS:={ V with aW:=fun i=>if i=id then none else V.aW i,no:=V.no-1 }
theorem Xc(bv bm bo H b:Nat)(id:Int)(c:Array Value)(V:aS)(w:World)(R:dS w bv bm bo V)(hid:(Lit.int .i64 id).wf=true)(hb:V.aW id=some b)(hno:0<V.no)
 (hout:∀i,i<V.nb->∀s,s<2->∀k,k<(V.B i).n s->(V.B i).h s k≠b) (h1:aA w H #[dD bv] 35) (h2:aA w (H+1) c 52) (h3:c[0]?=some (II id)) :
 CT 114 #[dD H,dD (H+1)] w fun e w'=>e=.returned (.tuple #[])/\dS w' bv bm bo (V.zy id)/\aj (fun x=>x=bo) w w':=by
 have x0:CC w H 0 (PP bv):=h1.cell 0;have x1:CC w (H+1) 0 (II id):=(h2.cell 0).trans h3;have v1:CC w bv 1 (.map (some bo)):=R.dC.cell 1;have fin:∀q,∃w',(Builtin.delete_ #[95,3] 0 #[.map (some bo),II id]).run Tryz.prog (w.drewN q)=.ok (.tuple #[]) w'/\dS w' bv bm bo (V.zy id)/\aj (fun x=>x=bo) w w':=by
  intro q;obtain⟨fO,mO,vK⟩:=R.fH;obtain⟨n,hn⟩:∃n,V.no=n+1:=⟨V.no-1,by omega⟩;rw[hn]at mO;obtain⟨w',hr,m',k'⟩:=(mO.aC ((aj.refl aJ w).drewN q) aU).drop zU Tryz.underlying95 (keyOf_int_mk Tryz.underlying3 hid) trivial (by rw[vK];exact hb) 0;have k2:aj (fun x=>x=bo) w w':=((aj.refl _ w).drewN q).trans k';refine⟨w',hr,?_,k2⟩;have nt:∀{x c t},aA w x c t->¬x=bo:=fun h e=>(mO.ne h) e.symm
  obtain⟨fB,mB,qh,uM⟩:=R.iM;have R0:=R;refine⟨?_,⟨fB,mB.aC k2 R.Ia,qh,uM⟩,⟨xA fO (.int .i64 id),by show kG w' 3 bo _ (V.no-1);rw[hn];exact m',fun i=>?_⟩,R.Ia,fun i hi=>(R.aY i hi).aC k2 ?_,fun i x hx=>?_,fun i hi s hs k hk=>?_,R.sS,R.nM,Nat.le_trans (Nat.sub_le _ _) R.gV⟩
  ·exact R.aP.aC k2 (nt R.dC) (fun y hy e=>by
    obtain⟨c,t,hc,_⟩:=R.aP.aP.gK hy;exact nt hc e)
  ·show xA fO _ _=if i=id then none else V.aW i
   by_cases e:i=id
   ·subst e;rw[rF (kl:=.int .i64 i) trivial,if_pos rfl]
   ·rw[ng (kl:=.int .i64 id) (k':=.int .i64 i) trivial (fun h=>e (by simpa using h)),if_neg e,vK]
  ·rintro x (rfl | ⟨s,hs,h⟩) e
   ·exact nt (R.aY i hi).aF e
   ·obtain⟨c,t,hc,_⟩:=(R.tu hi).gK (.inr (.inr ⟨s,hs,h⟩));exact nt hc e
  ·have hx':V.aW i=some x:=by
    simp only[aS.zy]at hx;by_cases e:i=id
    ·rw[if_pos e]at hx;simp at hx
    ·rw[if_neg e]at hx;exact hx
   obtain⟨e1,ix,ho⟩:=R.bz i x hx';exact⟨e1,ix,k2.aF ho (nt ho)⟩
  ·obtain⟨id',h⟩:=R.mem i hi s hs k hk;refine⟨id',?_⟩;show (if id'=id then none else V.aW id')=_;rw[if_neg]
   ·exact h
   ·intro e;subst e;rw[hb]at h;exact hout i hi s hs k hk (Option.some.inj h).symm
 have HF:=au fin;obtain⟨w1,r1,R1⟩:=fin 0;obtain⟨w2,r2,R2⟩:=fin 1;have r1':(Builtin.delete_ #[95,3] 0 #[.map (some bo),II id]).run Tryz.prog w=.ok (.tuple #[]) w1:=r1;have r2':(Builtin.delete_ #[95,3] 0 #[.map (some bo),II id]).run Tryz.prog w.drew=.ok (.tuple #[]) w2:=r2;clear fin R hb hout r1 r2 h1 h2 h3;simp only[dD];go_enter Tryz.func114,Tryz.ntmps114;go_wp2;go_region
 all_goals
  go_wp2;go_end0
  first | exact⟨rfl,R2⟩ | exact⟨rfl,R1⟩
def aS.vI(V:aS):aS:={ V with nb:=V.nb-1 }
theorem XD(bv bm bo H K n:Nat)(s:ByteArray)(V:aS)(w:World)(R:dS w bv bm bo V)(hn:V.nb=n+1)(hs:(V.B n).sym=s)(hlen:s.size<=maxLen)(h1:aA w H #[dD bv] 35)(h2:aA w K #[.string s] 9) :
 CT 54 #[dD H,dD K] w fun e w'=>e=.returned (.tuple #[])/\dS w' bv bm bo V.vI/\aj (fun x=>x=bm) w w':=by
 have x0:CC w H 0 (PP bv):=h1.cell 0;have x1:CC w K 0 (.string s):=h2.cell 0;have v1:CC w bv 0 (.map (some bm)):=R.dC.cell 0;have fin:∀q,∃w',(Builtin.delete_ #[94,9] 0 #[.map (some bm),.string s]).run Tryz.prog (w.drewN q)=.ok (.tuple #[]) w'/\dS w' bv bm bo V.vI/\aj (fun x=>x=bm) w w':=by
  intro q;obtain⟨fB,mB,qh,uM⟩:=R.iM;have mB0:=mB;rw[hn]at mB;have hfn:fB (sl s)=some (V.bk n):=by rw[<-hs];exact qh n (by omega)
  obtain⟨w',hr,m',k'⟩:=(mB.aC ((aj.refl aJ w).drewN q) aU).drop zV Tryz.underlying94 (WideMaps.keyOf_string_mk Tryz.underlying9 hlen) (kl:=sl s) trivial hfn 0;have k2:aj (fun x=>x=bm) w w':=((aj.refl _ w).drewN q).trans k';refine⟨w',hr,?_,k2⟩;have nt:∀{x c t},aA w x c t->¬x=bm:=fun h e=>(mB.ne h) e.symm
  obtain⟨fO,mO,vK⟩:=R.fH;have lt':∀{i},i<V.vI.nb->i<V.nb:=fun h=>Nat.lt_of_lt_of_le h (Nat.sub_le _ _)
  have ltn:∀{i},i<V.vI.nb->i<n:=fun h=>by simp only[aS.vI]at h;omega
  have hne:∀i,i<n->sl (V.B i).sym≠sl s:=fun i hi e=>by
   have h:=qh i (by omega);rw[e,hfn]at h;exact R.sS n i (by omega) (by omega) (by omega) (Option.some.inj h)
  refine⟨?_,⟨xA fB (sl s),by show kG w' 9 bm _ (V.nb-1);rw[hn];exact m',fun i hi=>?_,fun s' b h=>?_⟩,⟨fO,mO.aC k2 (fun e=>R.Ia e.symm),vK⟩,R.Ia,fun i hi=>(R.aY i (lt' hi)).aC k2 ?_,fun i x hx=>?_,fun i hi=>R.mem i (lt' hi),fun i j hi hj=>R.sS i j (lt' hi) (lt' hj),fun i j hi hj=>R.nM i j (lt' hi) (lt' hj),R.gV⟩
  ·exact R.aP.aC k2 (nt R.dC) (fun y hy e=>by
    obtain⟨c,t,hc,_⟩:=R.aP.aP.gK hy;exact nt hc e)
  ·show xA fB (sl s) (sl (V.B i).sym)=some (V.bk i);rw[ng (kl:=sl s) trivial (hne i (ltn hi))];exact qh i (lt' hi)
  ·by_cases e:s'=s
   ·subst e;rw[rF (kl:=sl s') trivial]at h;simp at h
   ·rw[ng (kl:=sl s) trivial (fun h=>e (Vh h))]at h;obtain⟨i,hi,e1,e2⟩:=uM s' b h;refine⟨i,?_,e1,e2⟩;simp only[aS.vI];have:i≠n:=by rintro rfl;exact e (e2.symm.trans hs)
    omega
  ·rintro x (rfl | ⟨s,hs,h⟩) e
   ·exact nt (R.aY i (lt' hi)).aF e
   ·obtain⟨c,t,hc,_⟩:=(R.tu (lt' hi)).gK (.inr (.inr ⟨s,hs,h⟩));exact nt hc e
  ·obtain⟨e1,ix,ho⟩:=R.bz i x hx;exact⟨e1,ix,k2.aF ho (nt ho)⟩
 have HF:=au fin;obtain⟨w1,r1,R1⟩:=fin 0;obtain⟨w2,r2,R2⟩:=fin 1;have r1':(Builtin.delete_ #[94,9] 0 #[.map (some bm),.string s]).run Tryz.prog w=.ok (.tuple #[]) w1:=r1;have r2':(Builtin.delete_ #[94,9] 0 #[.map (some bm),.string s]).run Tryz.prog w.drew=.ok (.tuple #[]) w2:=r2;clear fin R r1 r2 h1 h2 hs hn;simp only[dD];go_enter Tryz.func54,Tryz.ntmps54;go_wp2;go_region
 all_goals
  go_wp2;go_end0
  first | exact⟨rfl,R2⟩ | exact⟨rfl,R1⟩
def mW(o:Ord):Ord:={ o with place:=0 }
theorem fK{a b:Ord}(h:mW a=mW b):a.id=b.id/\a.aG=b.aG/\a.sym=b.sym/\a.side=b.side/\a.kind=b.kind/\a.af=b.af/\a.aK=b.aK/\a.entered=b.entered/\a.aO=b.aO/\a.filled=b.filled/\a.bZ=b.bZ/\a.exp=b.exp:=by
 obtain⟨a1,a2,a3,a4,a5,a6,a7,a8,a9,a10,a11,a12,a13⟩:=a;obtain⟨b1,b2,b3,b4,b5,b6,b7,b8,b9,b10,b11,b12,b13⟩:=b;simp only[mW,Ord.mk.injEq]at h;obtain⟨h1,h2,h3,h4,h5,h6,h7,h8,h9,h10,h11,h12,_⟩:=h;exact⟨h1,h2,h3,h4,h5,h6,h7,h8,h9,h10,h11,h12⟩
theorem OZ{a b:Ord}(h:mW a=mW b):dm a=dm b:=by
 obtain⟨h1,h2,h3,h4,h5,h6,h7,_⟩:=fK h;simp only[dm,h1,h2,h3,h4,h5,h6,h7]
theorem Na{a b c:Ord}(h1:a.side=b.side)(h2:b.side=c.side)(hab:mg a b=false)(hcb:mg c b=true):mg a c=false:=by
 rw[iF]at hab ⊢;rw[qK]at hcb;rw[h1,h2]at hab ⊢;split at hab <;> split at hcb <;> (try split) <;> omega
theorem lD(l:List Ord)(o:iT):∀n,lI l o n=none↔∀k,k<n->lJ o (ax l k)=false
 | 0=>by simp[lI]
 | n+1=>by
   have ih:=lD l o n;unfold lI;by_cases hg:lJ o (ax l n)=true
   ·rw[if_pos hg];constructor
    ·intro h;split at h
     ·simp at h
     ·split at h <;> simp at h
    ·intro h;have:=h n (by omega);rw[hg]at this;exact absurd this (by decide)
   ·rw[if_neg hg,ih];constructor
    ·intro h k hk;by_cases e:k=n
     ·subst e;simpa using hg
     ·exact h k (by omega)
    ·intro h k hk;exact h k (by omega)
theorem uG(l:List Ord)(o:iT)(s:Int)(hs:∀k,lJ o (ax l k)=true->(ax l k).side=s):∀n b,lI l o n=some b->∀k,k<n->lJ o (ax l k)=true->mg (ax l k) (ax l b)=false
 | 0,b,h,k,hk,_=>by omega
 | n+1,b,h,k,hk,hgk=>by
   unfold lI at h;by_cases hg:lJ o (ax l n)=true
   ·rw[if_pos hg]at h;cases hb:lI l o n with
    | none =>
      rw[hb]at h;simp at h;subst h;have:=(lD l o n).1 hb;by_cases e:k=n
      ·subst e;rw[iF];split <;> omega
      ·have:=this k (by omega);rw[hgk]at this;exact absurd this (by decide)
    | some b' =>
      rw[hb]at h;simp only at h;have hgb:=oL l o n b' hb;by_cases hl:mg (ax l n) (ax l b')=true
      ·rw[if_pos hl]at h;simp at h;subst h;by_cases e:k=n
       ·subst e;rw[iF];split <;> omega
       ·exact Na (by rw[hs k hgk,hs b' hgb]) (by rw[hs b' hgb,hs n hg]) (uG l o s hs n b' hb k (by omega) hgk) hl
      ·rw[if_neg hl]at h;simp at h;subst h;by_cases e:k=n
       ·subst e;simpa using hl
       ·exact uG l o s hs n b' hb k (by omega) hgk
   ·rw[if_neg hg]at h;by_cases e:k=n
    ·subst e;exact absurd hgk hg
    ·exact uG l o s hs n b h k (by omega) hgk
structure xg(p:Nat->Nat)(oc i s:Nat)(B:Bk)(om:Nat->Ord)(l:List Ord)(sym:ByteArray):Prop where
 il:i<l.length
 pi:p i=oc
 inj:∀a b,a<l.length->b<l.length->p a=p b->a=b
 same:∀k,k<l.length->k≠i->mW (om (p k))=mW (ax l k)
 self:mW { om oc with aO:=0 }=mW (ax l i)
 place:∀a b,a<l.length->b<l.length->a≠i->b≠i->(ax l a).sym=(ax l b).sym->0<(ax l a).aO->0<(ax l b).aO->((om (p a)).place<(om (p b)).place↔(ax l a).place<(ax l b).place)
 xy:∀a b,a<l.length->b<l.length->a≠i->b≠i->a≠b->(ax l a).sym=(ax l b).sym->0<(ax l a).aO->0<(ax l b).aO->(ax l a).place≠(ax l b).place
 mem:∀x,Mem (B.n s) (B.h s) x↔∃k,k<l.length/\k≠i/\p k=x/\(ax l k).sym=sym/\(ax l k).side=(s:Int)/\0<(ax l k).aO
 XO:(ax l i).sym=sym
 O1:(ax l i).side=1-(s:Int)
 side:∀k,k<l.length->(ax l k).side=0\/(ax l k).side=1
 aO:∀k,k<l.length->0<=(ax l k).aO
section
variable {p : Nat -> Nat} {oc i s : Nat} {B : Bk} {om : Nat -> Ord} {l : List Ord} {sym : ByteArray}
theorem xg.ask(h:xg p oc i s B om l sym):dm (om oc)=dm (ax l i):=by
 have:=OZ h.self;rw[<-this]
 rfl
theorem UT{l:List Ord}{k:Nat}(h:¬k<l.length):(ax l k).aO=0:=by
 unfold ax;rw[List.getD_eq_getElem?_getD,List.getElem?_eq_none (by omega)]
 rfl
theorem xg.sN(h:xg p oc i s B om l sym)(hs:s<2)(k:Nat):lJ (dm (ax l i)) (ax l k)=true↔(k<l.length/\k≠i/\(ax l k).sym=sym/\(ax l k).side=(s:Int)/\0<(ax l k).aO/\jc (ax l i).kind (ax l i).side (ax l i).af (ax l k).af=true):=by
 unfold lJ;simp only[Bool.and_eq_true,Bool.not_eq_true',beq_eq_false_iff_ne,ne_eq,decide_eq_true_eq];simp only[dm];rw[h.XO];constructor
 ·rintro⟨⟨⟨h1,h2⟩,h3⟩,h4⟩;have hk:k<l.length:=by
   by_cases hk:k<l.length
   ·exact hk
   ·exact absurd (UT hk) h1
  have:=h.aO k hk;have:=h.side k hk;have:=h.O1;exact⟨hk,fun e=>by subst e;exact h3 rfl,h2,by omega,by omega,h4⟩
 ·rintro⟨h1,h2,h3,h4,h5,h6⟩;have:=h.O1;exact⟨⟨⟨by omega,h3⟩,by rw[h4,this];omega⟩,h6⟩
theorem xg.ads(h:xg p oc i s B om l sym){a b:Nat}(ha:a<l.length)(hb:b<l.length)(hai:a≠i)(hbi:b≠i)(hsy:(ax l a).sym=(ax l b).sym)(h1:0<(ax l a).aO)(h2:0<(ax l b).aO):mg (om (p a)) (om (p b))=mg (ax l a) (ax l b):=by
 obtain⟨_,_,_,s1,_,p1,_⟩:=fK (h.same a ha hai);obtain⟨_,_,_,s2,_,p2,_⟩:=fK (h.same b hb hbi);have pl:=h.place a b ha hb hai hbi hsy h1 h2;rw[Bool.eq_iff_iff,qK,qK,s1,p1,p2];exact or_congr Iff.rfl (and_congr Iff.rfl pl)
theorem xg.DX(h:xg p oc i s B om l sym)(hs:s<2)(hh:eG (fP om) (B.n s) (B.h s)):(gZ l (dm (ax l i))).map p=dJ B om (dm (om oc)) s:=by
 have hsd:∀k,lJ (dm (ax l i)) (ax l k)=true->(ax l k).side=(s:Int):=fun k hk=>((h.sN hs k).1 hk).2.2.2.1
 have abZ:∀k,lJ (dm (ax l i)) (ax l k)=true->Mem (B.n s) (B.h s) (p k):=fun k hk=>by
  obtain⟨a,b,c,d,e,_⟩:=(h.sN hs k).1 hk;exact (h.mem _).2 ⟨k,a,b,rfl,c,d,e⟩
 have wC:∀k,k<B.n s->(om (B.h s k)).side=(s:Int):=fun k hk=>by
  obtain⟨j,j1,j2,j3,_,j5,_⟩:=(h.mem _).1 ⟨k,hk,rfl⟩;rw[<-j3,(fK (h.same j j1 j2)).2.2.2.1];exact j5
 have hmin:=CE (lV om (s:Int)) hh wC;by_cases hn:B.n s=0
 ·have:gZ l (dm (ax l i))=none:=by
   unfold gZ;rw[lD];intro k hk;cases hg:lJ (dm (ax l i)) (ax l k)
   ·rfl
   ·obtain⟨j,hj,_⟩:=abZ k hg;omega
  rw[this];unfold dJ;rw[if_pos hn]
  rfl
 ·obtain⟨r,r1,r2,r3,r4,r5,r6⟩:=(h.mem _).1 ⟨0,by omega,rfl⟩;have hpr:(om (B.h s 0)).af=(ax l r).af:=by rw[<-r3];exact (fK (h.same r r1 r2)).2.2.2.2.2.1
  have hmr:∀k,lJ (dm (ax l i)) (ax l k)=true->mg (ax l k) (ax l r)=false:=fun k hk=>by
   obtain⟨a,b,c,d,e,_⟩:=(h.sN hs k).1 hk;rw[<-h.ads a r1 b r2 (by rw[c,r4]) e r6];obtain⟨j,hj,e2⟩:=abZ k hk;have:=hmin j hj;rw[<-e2,<-r3]at this;exact this
  have hask:=h.ask;unfold dJ;rw[if_neg hn,hask,hpr];by_cases hg:jc (ax l i).kind (ax l i).side (ax l i).af (ax l r).af=true
  ·rw[if_pos (show jc (dm (ax l i)).kind (dm (ax l i)).side (dm (ax l i)).af (ax l r).af=true from hg)];have hgr:lJ (dm (ax l i)) (ax l r)=true:=(h.sN hs r).2 ⟨r1,r2,r4,r5,r6,hg⟩;cases hb:gZ l (dm (ax l i)) with
   | none =>
     have:=(lD l _ _).1 hb r r1;rw[hgr]at this;exact absurd this (by decide)
   | some b =>
     have hgb:=oL l _ _ b hb;have m1:=uG l _ (s:Int) hsd _ b hb r r1 hgr;have m2:=hmr b hgb;obtain⟨b1,b2,b3,b4,b5,_⟩:=(h.sN hs b).1 hgb;have e:b=r:=by
      by_cases e:b=r
      ·exact e
      ·have:=h.xy b r b1 r1 b2 r2 e (by rw[b3,r4]) b5 r6;rw[iF]at m1 m2;rw[r5]at m1;rw[b4]at m2;split at m1 <;> split at m2 <;> omega
     subst e;simp[r3]
  ·rw[if_neg (show ¬jc (dm (ax l i)).kind (dm (ax l i)).side (dm (ax l i)).af (ax l r).af=true from hg)];have:gZ l (dm (ax l i))=none:=by
    unfold gZ;rw[lD];intro k hk;cases hgk:lJ (dm (ax l i)) (ax l k)
    ·rfl
    ·exfalso;apply hg;obtain⟨a,b,c,d,e,f⟩:=(h.sN hs k).1 hgk;have m2:=hmr k hgk;rw[iF]at m2;have os:=h.O1;unfold jc at f ⊢;rw[d]at m2;split at f
     ·rename_i h5;rw[if_pos h5]
     ·rename_i h5;rw[if_neg h5];split at f
      ·rename_i h6;rw[if_pos h6];simp only[decide_eq_true_eq]at f ⊢;rw[if_neg (by omega)]at m2;omega
      ·rename_i h6;rw[if_neg h6];simp only[decide_eq_true_eq]at f ⊢;rw[if_pos (by omega)]at m2;omega
   rw[this]
   rfl
end
open Go.RowKit
theorem xg.turn{p:Nat->Nat}{oc i s:Nat}{B B':Bk}{om dK:Nat->Ord}{l l':List Ord}{sym:ByteArray}(h:xg p oc i s B om l sym)(hl:l'.length=l.length)
 (same:∀k,k<l.length->k≠i->mW (dK (p k))=mW (ax l' k)) (self:mW { dK oc with aO:=0 }=mW (ax l' i))
 (dN:∀k,k<l.length->(ax l' k).sym=(ax l k).sym/\(ax l' k).side=(ax l k).side/\(ax l' k).place=(ax l k).place/\0<=(ax l' k).aO/\(0<(ax l' k).aO->0<(ax l k).aO)/\(dK (p k)).place=(om (p k)).place)
 (mem:∀x,Mem (B'.n s) (B'.h s) x↔∃k,k<l.length/\k≠i/\p k=x/\(ax l k).sym=sym/\(ax l k).side=(s:Int)/\0<(ax l' k).aO):xg p oc i s B' dK l' sym:=by
 refine⟨by rw[hl];exact h.il,h.pi,fun a b ha hb=>h.inj a b (by omega) (by omega),fun k hk=>same k (by omega),self,fun a b ha hb hai hbi hsy h1 h2=>?_,fun a b ha hb hai hbi hab hsy h1 h2=>?_,fun x=>?_,?_,?_,fun k hk=>?_,fun k hk=>?_⟩
 ·obtain⟨a1,a2,a3,a4,a5,a6⟩:=dN a (by omega);obtain⟨b1,b2,b3,b4,b5,b6⟩:=dN b (by omega);rw[a6,b6,a3,b3];exact h.place a b (by omega) (by omega) hai hbi (by rw[<-a1,<-b1];exact hsy) (a5 h1) (b5 h2)
 ·obtain⟨a1,a2,a3,a4,a5,a6⟩:=dN a (by omega);obtain⟨b1,b2,b3,b4,b5,b6⟩:=dN b (by omega);rw[a3,b3];exact h.xy a b (by omega) (by omega) hai hbi hab (by rw[<-a1,<-b1];exact hsy) (a5 h1) (b5 h2)
 ·rw[mem x,hl];constructor
  ·rintro⟨k,k1,k2,k3,k4,k5,k6⟩;obtain⟨a1,a2,_⟩:=dN k k1;exact⟨k,k1,k2,k3,by rw[a1];exact k4,by rw[a2];exact k5,k6⟩
  ·rintro⟨k,k1,k2,k3,k4,k5,k6⟩;obtain⟨a1,a2,_⟩:=dN k k1;exact⟨k,k1,k2,k3,by rw[<-a1];exact k4,by rw[<-a2];exact k5,k6⟩
 ·rw[(dN i h.il).1];exact h.XO
 ·rw[(dN i h.il).2.1];exact h.O1
 ·rw[(dN k (by omega)).2.1];exact h.side k (by omega)
 ·exact (dN k (by omega)).2.2.2.1
structure tJ(p:Nat->Nat)(oc i s:Nat)(sym:ByteArray)(R0:List Rc)(yZ f0:Int)(st:MS)(c:RC):Prop where
 oz:xg p oc i s st.B st.om c.S.l sym
 left:c.left=(st.om oc).aO
 tr:st.lg.tr=c.S.t
 tp:st.lg.tp=kZ R0 c.S.told
 day:st.lg.day=c.S.day
 lL:st.B.sym=sym
 filled:c.filled=(st.om oc).filled-f0
 count:c.count=st.tr-yZ
 first:c.first=if st.tr=yZ then 0 else yZ+1
 le:yZ<=st.tr
 g0:0<=f0
 g1:f0<=1000000000000000
theorem fE{l:List Ord}{k:Nat}{o:Ord}(hk:k<l.length)(a:Nat):ax (l.set k o) a=if a=k then o else ax l a:=by
 by_cases e:a=k
 ·subst e;rw[if_pos rfl,qj hk]
 ·rw[if_neg e,zI (fun x=>e x.symm)]
theorem IZ{B:Bk}{om:Nat->Ord}{o:iT}{s x:Nat}(h:dJ B om o s=some x):0<B.n s/\x=B.h s 0:=by
 unfold dJ at h;split at h
 ·simp at h
 ·split at h
  ·simp at h;exact⟨by omega,h.symm⟩
  ·simp at h
theorem tJ.step{p:Nat->Nat}{oc i s:Nat}{sym:ByteArray}{R0:List Rc}{yZ f0 M:Int}{st:MS}{c:RC}(h:tJ p oc i s sym R0 yZ f0 st c)(hM:M<=1000000000000000)(hs:s<2)(iv:sV oc s st)(hh:eG (fP st.om) (st.B.n s) (st.B.h s))(hq:∀x,(x=oc\/mD st s x)->Qo M (st.om x))(hp:0<(st.om oc).aO){k:Nat}(hk:c.DX i=some k)(htr:st.tr<1000000000)(aab:0<=yZ) :
 tJ p oc i s sym R0 yZ f0 (bF oc s st) (c.step i k):=by
 obtain⟨eX,hleft,Jc,htp,TF,hbs,hfil,hcnt,TJ,hle,hf0,hf1⟩:=h;have hb:=eX.DX hs hh;have hk':gZ c.S.l (dm (ax c.S.l i))=some k:=hk;rw[hk']at hb;simp only[Option.map_some]at hb;obtain⟨hn,hpk⟩:=IZ hb.symm;have hgk:=(eX.sN hs k).1 (oL _ _ _ _ hk');obtain⟨k1,k2,k3,k4,k5,k6⟩:=hgk;have il:=eX.il;have hsame:=fK (eX.same k k1 k2);obtain⟨e1,e2,e3,e4,e5,e6,e7,e8,e9,e10,e11,e12⟩:=hsame;have hself:=fK eX.self;obtain⟨s1,s2,s3,s4,s5,s6,s7,s8,s9,s10,s11,s12⟩:=hself;simp only at s1 s2 s3 s4 s5 s6 s7 s8 s9 s10 s11 s12;have hr:st.B.h s 0=p k:=hpk.symm;have hne:p k≠oc:=fun e=>k2 (eX.inj k i k1 il (by rw[e,eX.pi]))
 have qr:Qo M (st.om (p k)):=hq _ (.inr ⟨0,hn,hpk⟩);have qc:Qo M (st.om oc):=hq _ (.inl rfl);have GL:∀a,a<c.S.l.length->a≠k->p a≠p k:=fun a ha e e2=>e (eX.inj a k ha k1 e2)
 have pni:∀a,a<c.S.l.length->a≠i->p a≠oc:=fun a ha e e2=>e (eX.inj a i ha il (by rw[e2,eX.pi]))
 unfold bF RC.step;rw[hr,e2];have ow:(st.om oc).aG=(ax c.S.l i).aG:=s2;rw[ow];by_cases ho:(ax c.S.l k).aG=(ax c.S.l i).aG
 ·rw[if_pos ho,if_pos ho];have hoc:aQ st.om (p k) (gz (st.om (p k))) oc=st.om oc:=ah _ _ (fun e=>hne e.symm);refine⟨?_,by simp only[hoc];exact hleft,Jc,htp,TF,hbs,by simp only[hoc];exact hfil,hcnt,TJ,hle,hf0,hf1⟩;simp only[RS.ik];refine eX.turn (by simp) (fun a ha hai=>?_) ?_ (fun a ha=>?_) (fun x=>?_)
  ·rw[fE k1];by_cases e:a=k
   ·subst e;rw[ai,if_pos rfl];have:=eX.same a ha hai;show gz (mW (st.om (p a)))=mW _;rw[this]
    rfl
   ·rw[ah _ _ (GL a ha e),if_neg e];exact eX.same a ha hai
  ·rw[hoc,fE k1,if_neg (fun e=>k2 e.symm)];exact eX.self
  ·rw[fE k1];by_cases e:a=k
   ·subst e;rw[if_pos rfl,ai];exact⟨rfl,rfl,rfl,Int.le_refl _,fun h=>absurd h (by simp),rfl⟩
   ·rw[if_neg e,ah _ _ (GL a ha e)];exact⟨rfl,rfl,rfl,eX.aO a ha,fun h=>h,rfl⟩
  ·rw[lK iv.inj hn x,eX.mem x,hr];constructor
   ·rintro⟨⟨a,a1,a2,a3,a4,a5,a6⟩,hx⟩;refine⟨a,a1,a2,a3,a4,a5,?_⟩;rw[fE k1,if_neg (fun e=>by subst e;exact hx a3.symm)];exact a6
   ·rintro⟨a,a1,a2,a3,a4,a5,a6⟩;rw[fE k1]at a6;by_cases e:a=k
    ·rw[if_pos e]at a6;simp at a6
    ·rw[if_neg e]at a6;exact⟨⟨a,a1,a2,a3,a4,a5,a6⟩,by rw[<-a3];exact GL a a1 e⟩
 ·rw[if_neg ho,if_neg ho];obtain⟨q,hqq⟩:=mf (min (st.om oc).aO (st.om (p k)).aO);have hmu:c.UH k=q:=by
   unfold RC.UH;rw[hleft,<-e9];split <;> omega
  have q0:0<q:=by have:=qr.o0;rw[e9]at hqq;omega
  obtain⟨c1,c2,c3⟩:=qc.fill (q:=q) (by omega) (by omega) hM;obtain⟨d1,d2,d3⟩:=qr.fill (q:=q) (by omega) (by omega) hM;have DD:aV st.om oc (p k) oc=ja (st.om oc) q:=by unfold aV;rw[ah _ _ (fun e=>hne e.symm),ai,hqq]
  have QW:aV st.om oc (p k) (p k)=ja (st.om (p k)) q:=by unfold aV;rw[ai,hqq]
  have tot:∀x,x≠oc->x≠p k->aV st.om oc (p k) x=st.om x:=fun x h1 h2=>by unfold aV;rw[ah _ _ h2,ah _ _ h1]
  have hno:∀a,ax (c.S.zA i k q).l a=if a=i then { ax c.S.l i with filled:=wrap64 ((ax c.S.l i).filled+q) } else if a=k then { ax c.S.l k with aO:=wrap64 ((ax c.S.l k).aO-q),filled:=wrap64 ((ax c.S.l k).filled+q) } else ax c.S.l a:=fun a=>by
   simp only[RS.zA,RS.ik];rw[fE (by simpa using il),fE k1]
  have aac:MS.tr ⟨dU st.B st.om oc (p k) s,aV st.om oc (p k),(dn st.lg st.om oc (p k)).jT (iY st.B st.om oc (p k))⟩=st.tr+1:=by simp[MS.tr,Lg.jT,Lg.told,Lg.aC,Lg.aX,gW]
  have hT:(dn st.lg st.om oc (p k)).iP (iY st.B st.om oc (p k))=c.S.tr i k q:=by
   simp only[Lg.iP,iY,RS.tr,gW,rX];rw[Jc,TF,hbs,e6,hqq,s4,e1,s1,eX.XO]
  have hn0:0<=st.tr:=by unfold MS.tr;omega
  have w1:wrap64 (c.count+1)=c.count+1:=aT (by omega) (by omega);have hlen:(c.S.t.length:Int)=st.tr:=by unfold MS.tr;rw[Jc]
  refine⟨?_,?_,?_,?_,?_,?_,?_,?_,?_,?_,hf0,hf1⟩
  ·simp only[RS.uA];rw[hmu];refine eX.turn (by simp[RS.zA,RS.ik]) (fun a ha hai=>?_) ?_ (fun a ha=>?_) (fun x=>?_)
   ·rw[hno a,if_neg hai];by_cases e:a=k
    ·subst e;rw[if_pos rfl,QW];have:=eX.same a ha hai;show ja (mW (st.om (p a))) q=mW _;rw[this]
     rfl
    ·rw[if_neg e,tot _ (pni a ha hai) (GL a ha e)];exact eX.same a ha hai
   ·rw[hno i,if_pos rfl,DD];have:=eX.self;show ({ mW { st.om oc with aO:=0 } with filled:=wrap64 ((mW { st.om oc with aO:=0 }).filled+q) }:Ord)=mW _;rw[this]
    rfl
   ·rw[hno a];by_cases ei:a=i
    ·subst ei;rw[if_pos rfl,eX.pi,DD];exact⟨rfl,rfl,rfl,eX.aO a ha,fun h=>h,rfl⟩
    ·rw[if_neg ei];by_cases e:a=k
     ·subst e;rw[if_pos rfl,QW];refine⟨rfl,rfl,rfl,?_,fun _=>k5,rfl⟩;have:=d1.o0;rw[d2,e9]at this;show 0<=wrap64 ((ax c.S.l a).aO-q);rw[aT (by have:=qr.hi;have:=qr.sum;have:=qr.f0;have:=qr.c0;have:=qr.e0;omega) (by have:=qr.hi;have:=qr.sum;have:=qr.f0;have:=qr.c0;have:=qr.e0;omega)];exact this
     ·rw[if_neg e,tot _ (pni a ha ei) (GL a ha e)];exact⟨rfl,rfl,rfl,eX.aO a ha,fun h=>h,rfl⟩
   ·have hko:(ax (c.S.zA i k q).l k).aO=(st.om (p k)).aO-q:=by
     rw[hno k,if_neg k2,if_pos rfl];show wrap64 ((ax c.S.l k).aO-q)=_;rw[<-e9];exact d2
    have hbase:∀x,(∃a,a<c.S.l.length/\a≠i/\p a=x/\(ax c.S.l a).sym=sym/\(ax c.S.l a).side=(s:Int)/\0<(ax (c.S.zA i k q).l a).aO)↔(Mem (st.B.n s) (st.B.h s) x/\(x=p k->0<(st.om (p k)).aO-q)):=fun x=>by
     rw[eX.mem x];constructor
     ·rintro⟨a,a1,a2,a3,a4,a5,a6⟩;by_cases e:a=k
      ·subst e;rw[hko]at a6;exact⟨⟨a,a1,a2,a3,a4,a5,k5⟩,fun _=>a6⟩
      ·rw[hno a,if_neg a2,if_neg e]at a6;exact⟨⟨a,a1,a2,a3,a4,a5,a6⟩,fun e2=>absurd (by rw[a3];exact e2) (GL a a1 e)⟩
     ·rintro⟨⟨a,a1,a2,a3,a4,a5,a6⟩,hx⟩;refine⟨a,a1,a2,a3,a4,a5,?_⟩;by_cases e:a=k
      ·subst e;rw[hko];exact hx a3.symm
      ·rw[hno a,if_neg a2,if_neg e];exact a6
    rw[hbase x];unfold dU;rw[QW,d2];by_cases ez:(st.om (p k)).aO-q=0
    ·rw[if_pos ez,lK iv.inj hn x,hr];constructor
     ·rintro⟨a,b⟩;exact⟨a,fun e=>absurd e b⟩
     ·rintro⟨a,b⟩;exact⟨a,fun e=>by have:=b e;omega⟩
    ·rw[if_neg ez];constructor
     ·intro a;exact⟨a,fun _=>by omega⟩
     ·rintro⟨a,_⟩;exact a
  ·simp only[DD,c2];rw[hmu,hleft];exact aT (by have:=qc.hi;have:=qc.sum;have:=qc.f0;have:=qc.c0;have:=qc.e0;omega) (by have:=qc.hi;have:=qc.sum;have:=qc.f0;have:=qc.c0;have:=qc.e0;omega)
  ·simp only[Lg.jT,Lg.told,Lg.aC,Lg.aX,gW,RS.uA];rw[Jc,hmu,<-hT]
  ·simp only[Lg.jT,Lg.told,Lg.aC,Lg.aX,RS.uA];rw[EZ,oH,htp,hmu,<-hT]
  ·simp only[Lg.jT,Lg.told,Lg.aC,Lg.aX,rX,RS.uA];exact TF
  ·show (dU st.B st.om oc (p k) s).sym=sym;unfold dU;split
   ·exact hbs
   ·exact hbs
  ·simp only[DD,c3];rw[hmu,hfil];rw[aT (by have:=qc.hi;have:=qc.sum;have:=qc.f0;have:=qc.c0;have:=qc.e0;have:=qc.o0;omega) (by have:=qc.hi;have:=qc.sum;have:=qc.f0;have:=qc.c0;have:=qc.e0;have:=qc.o0;omega)];omega
  ·show wrap64 (c.count+1)=_-yZ;rw[aac,w1];omega
  ·show (if wrap64 (c.count+1)=1 then (c.S.t.length:Int)+1 else c.first)=_;rw[aac,w1,if_neg (c:=st.tr+1=yZ) (by omega)];by_cases e:st.tr=yZ
   ·rw[if_pos (by omega),hlen,e]
   ·rw[if_neg (by omega),TJ,if_neg e]
  ·rw[aac];omega
theorem uX{l:List Ord}{k:Nat}{o:Ord}(h:o.place=(ax l k).place)(a:Nat):(ax (l.set k o) a).place=(ax l a).place:=by
 by_cases e:k=a
 ·subst e;by_cases hk:k<l.length
  ·rw[qj hk,h]
  ·rw[List.set_eq_of_length_le (by omega)]
 ·rw[zI e]
theorem NT(c:RC)(i k a:Nat):(ax (c.step i k).S.l a).place=(ax c.S.l a).place:=by
 unfold RC.step;split
 ·simp only[RS.ik];exact uX (by rfl) a
 ·simp only[RS.uA,RS.zA,RS.ik];rw[uX,uX]
  ·rfl
  ·rw[uX]
   rfl
theorem tJ.aa9{p:Nat->Nat}{oc i s:Nat}{sym:ByteArray}{R0:List Rc}{yZ f0 M:Int}(hM:M<=1000000000000000)(hs:s<2)(aab:0<=yZ):∀(f:Nat) (st:MS) (c:RC),tJ p oc i s sym R0 yZ f0 st c->sV oc s st->eG (fP st.om) (st.B.n s) (st.B.h s)->(∀x,(x=oc\/mD st s x)->Qo M (st.om x))->mu oc s st<=f->st.tr+f<1000000000 ->
 ∃c',wW i f c c'/\tJ p oc i s sym R0 yZ f0 (aZ oc s f st) c'/\c'.S.sy=c.S.sy/\c'.S.places=c.S.places/\c'.S.l.length=c.S.l.length/\(∀a,(ax c'.S.l a).place=(ax c.S.l a).place)/\c'.S.t.length<=c.S.t.length+f/\c'.S.told.length<=c.S.told.length+f:=by
 intro f
 induction f with
 | zero =>
   intro st c h iv hh hq hmu htr;refine⟨c,wW.stop 0 c (.inr ?_),h,rfl,rfl,rfl,fun _=>rfl,by omega,by omega⟩;have hn:st.B.n s=0:=by unfold mu at hmu;omega
   have hb:=h.oz.DX hs hh;unfold dJ at hb;rw[if_pos hn]at hb;show gZ c.S.l (dm (ax c.S.l i))=none
   simpa using hb
 | succ f ih =>
   intro st c h iv hh hq hmu htr;have hb:=h.oz.DX hs hh;rw[aZ];by_cases hst:stops oc s st=true
   ·rw[if_pos hst];refine⟨c,wW.stop _ c ?_,h,rfl,rfl,rfl,fun _=>rfl,by omega,by omega⟩;unfold stops at hst;simp only[Bool.or_eq_true,Bool.not_eq_true',decide_eq_false_iff_not]at hst;rcases hst with e | e
    ·left;rw[h.left];exact e
    ·right;have:dJ st.B st.om (dm (st.om oc)) s=none:=by simpa using e
     rw[this]at hb;show gZ c.S.l (dm (ax c.S.l i))=none
     simpa using hb
   ·rw[if_neg hst];obtain⟨hn,hp⟩:=ny hst;have hso:∃k,c.DX i=some k:=by
     cases hbk:c.DX i with
     | some k=>exact⟨k,rfl⟩
     | none =>
       have e:gZ c.S.l (dm (ax c.S.l i))=none:=hbk;rw[e]at hb;exfalso;apply hst;unfold stops;rw[<-hb];simp
    obtain⟨k,hk⟩:=hso;have h1:=h.step hM hs iv hh hq hp hk (by omega) aab;have r1:=yR hM iv hn hp hh hq;obtain⟨OJ,adL,_⟩:=oV iv hn hp;have abN:(bF oc s st).tr<=st.tr+1:=by
     have a:=h1.tr;have b:=h.tr;have:=NU c i k;unfold MS.tr;rw[a,b];omega
    obtain⟨c',he,hs',sy,pl,ln,pc,tl,ol⟩:=ih (bF oc s st) (c.step i k) h1 r1.inv r1.heap (fun x hx=>r1.q x (hx.imp_right (r1.mem x))) (by omega) (by omega);have q1:(c.step i k).S.sy=c.S.sy/\(c.step i k).S.places=c.S.places:=by
     unfold RC.step;split
     ·exact⟨rfl,rfl⟩
     ·exact⟨rfl,rfl⟩
    exact⟨c',wW.go f k c c' (by rw[h.left];exact hp) hk he,hs',sy.trans q1.1,pl.trans q1.2,ln.trans (Vw c i k),fun a=>(pc a).trans (NT c i k a),by have:=(NU c i k).1;omega,by have:=(NU c i k).2;omega⟩
end Go.Proofs.YtigaphnafnpfnaaGreatDoor
