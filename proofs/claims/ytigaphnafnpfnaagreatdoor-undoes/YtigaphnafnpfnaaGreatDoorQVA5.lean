import Derived.Test.YtigaphnafnpfnaaGreatDoorQVW
import Derived.Lib.MinMax
import Derived.Deep.RegionLaw
import Derived.Sort.Grow
import Derived.Shelf.Small.Bits
import Derived.Shelf.SlSortCmp.Kit1
import Derived.Shelf.GgSortFunc.Compose
import Derived.Shelf.SlSortCmp.Whole1
set_option linter.unusedVariables false
set_option linter.unusedSimpArgs false
set_option maxHeartbeats 8000000
set_option maxRecDepth 100000
namespace Go.Proofs.YtigaphnafnpfnaaGreatDoor
open Go.RowKit
def jk(w:World)(s:Option Addr)(n cap:Nat)(h:Nat->Nat)(om:Nat->Ord):Prop :=
 (s=none/\n=0/\cap=0)\/∃ab,s=some ⟨ab,0,none⟩/\kR w ab cap n h om
def vU(n:Nat)(h:Nat->Nat):List Value:=(List.range n).map fun k=>PP (h k)
theorem jk.owns{w:World}{s:Option Addr}{n cap:Nat}{h:Nat->Nat}{om:Nat->Ord}(hs:jk w s n cap h om):w.ownsRow 0 114 1 (.slice s n cap) n (vU n h):=by
 refine⟨by simp[vU],?_⟩;rcases hs with⟨rfl,rfl,rfl⟩ | ⟨b,rfl,hs⟩
 ·exact .inl ⟨rfl,rfl⟩
 ·right;obtain⟨cs,c,e,d⟩:=hs.sD;have f:=hs.le;refine⟨b,cap,cs,rfl,Nat.zero_le _,c,hs.le,hs.NR,by omega,?_⟩;apply List.ext_getElem?;intro i;by_cases a:i<n
  ·rw[List.getElem?_take_of_lt (by omega),Array.getElem?_toList,d i a];simp[vU,a]
  ·rw[List.getElem?_eq_none (by simp;omega),List.getElem?_eq_none (by simp[vU];omega)]
theorem KP{w:World}{g n cap:Nat}{h:Nat->Nat}(j:w.ownsRow 0 114 1 (.slice (some ⟨g,0,none⟩) n cap) n (vU n h)) :
 n<=cap/\cap<=maxLen/\∃cs,au w g cs 114/\cs.size=cap/\∀i,i<n->cs[i]?=some (PP (h i)):=by
 rcases j.2 with⟨a,_⟩ | ⟨l,cap',b,a,_,d,f,c,hs,k⟩
 ·simp at a
 ·simp at a;obtain⟨rfl,rfl⟩:=a;refine⟨f,c,b,d,by omega,fun i e=>?_⟩;have:(b.toList.take (n * 1))[i]?=(vU n h)[i]?:=by rw[k]
  rw[List.getElem?_take_of_lt (by omega),Array.getElem?_toList]at this;rw[this];simp[vU,e]
theorem OL(n:Nat)(h:Nat->Nat)(a:Nat):vU n h++[PP a]=vU (n+1) (fun k=>if k=n then a else h k):=by
 simp only[vU,List.range_succ,List.map_append,List.map_cons,List.map_nil,if_true];congr 1;apply List.map_congr_left;intro k b;simp at b;rw[if_neg (by omega)]
def ig:Option Addr->Option Nat
 | some a=>some a.block
 | none=>none
theorem XG:∃i,Tryz.prog.info? 114=some i/\i.zero=some (.pointer none)/\i.size=1/\i.bytes=8:=by
 have h:(Tryz.prog.info? 114).map (fun i=>(i.zero,i.size,i.bytes))=some (some (.pointer none),1,8):=by kernel_rfl
 exact info_parts h
theorem jk.aC{w w':World}{s:Option Addr}{n cap:Nat}{h:Nat->Nat}{om:Nat->Ord}(hs:jk w s n cap h om){S:Nat->Prop}(k:aj S w w')(d:∀b,(ig s=some b\/∃k,k<n/\b=h k)->¬S b):jk w' s n cap h om:=by
 rcases hs with hs | ⟨c,rfl,hs⟩
 ·exact .inl hs
 ·refine .inr ⟨c,rfl,hs.aC k (fun b a=>d b ?_)⟩;rcases a with rfl | a
  ·exact .inl rfl
  ·exact .inr a
theorem jk.ne{w:World}{s:Option Addr}{n cap:Nat}{h:Nat->Nat}{om:Nat->Ord}(hs:jk w s n cap h om){b:Nat}{c:Array Value}{t:TypeId}(a:au w b c t)(f:t≠114):ig s≠some b:=by
 rcases hs with⟨rfl,_⟩ | ⟨g,rfl,hs⟩
 ·simp[ig]
 ·obtain⟨cs,d,_⟩:=hs.sD;intro e;simp[ig]at e;exact au.ne a d f e.symm
theorem jk.lt{w:World}{s:Option Addr}{n cap:Nat}{h:Nat->Nat}{om:Nat->Ord}(hs:jk w s n cap h om){b:Nat}(e:ig s=some b):b<w.heap.size:=by
 rcases hs with⟨rfl,_⟩ | ⟨c,rfl,hs⟩
 ·simp[ig]at e
 ·obtain⟨cs,a,_⟩:=hs.sD;simp[ig]at e;exact e▸a.lt
theorem jk.bg{w:World}{s:Option Addr}{n cap:Nat}{h:Nat->Nat}{om:Nat->Ord}(hs:jk w s n cap h om){i:Nat}(a:i<n):bV w (h i) (om (h i)) i:=by
 rcases hs with⟨rfl,rfl,_⟩ | ⟨b,rfl,hs⟩
 ·omega
 ·exact hs.ord i a
theorem Iw(s:Option Addr)(n cap:Nat):(Value.slice s n cap).ownBlock=ig s:=by cases s <;> rfl
theorem PU(v:Value)(w:World):Sem.run Tryz.prog (Instr.typeAssert (.iface 114 v) 20 114 false) w=.ok v w:=by kernel_rfl
theorem Sm(d f c n cap:Nat)(s:Option Addr)(x:Array Value)(h:Nat->Nat)(om:Nat->Ord)(ix:Int)(w:World)(l:au w d x 158)(A:x[f]?=some (.slice s n cap))(hsd:jk w s n cap h om)
 (m:bV w c (om c) ix) (W:∀k,k<n->h k≠c) (hn:n<1000) :
 CT 260 #[.pointer (some ⟨d,f,none⟩),.iface 114 (PP c)] w fun e w'=>e=.returned (.tuple #[]) /\
  ∃g cap',au w' d (x.setIfInBounds f (.slice (some ⟨g,0,none⟩) (n+1) cap')) 158/\kR w' g cap' (n+1) (fun k=>if k=n then c else h k) om/\aj (fun b=>b=d\/b=c\/ig s=some b) w w'/\(ig s=some g\/w.heap.size<=g):=by
 have L:=(l.cell f).trans A;have O:=l.frozen f;have B:=m.cell 13;simp only[Ord.cells]at B;simp at B;have fo:=m.frozen 13;have z:c≠d:=au.ne m l (by decide);have hown:=hsd.owns;obtain⟨i0,E,hz0,hz1,hz2⟩:=XG;have M:(w.setCell ⟨c,13,none⟩ (II n)).cell? ⟨d,f,none⟩=some (.slice s n cap):=((l.other (a:=⟨c,13,none⟩) (fun e=>z e.symm) _).cell f).trans A;have Z:=PU (PP c) w;have HO:Hid (w.ownsRow 0 114 1 (.slice s n cap) n (vU n h)):=hown;clear hown;have y:aj (fun b=>b=c) w ((w.setCell ⟨c,13,none⟩ (II n)).alloc (.cells #[PP c] 114)):=((aj.refl (fun b=>b=c) w).setCell (p:=⟨c,13,none⟩) (.inl rfl) _).alloc _;have v:=hsd.aC y (fun b j e=>by
  subst e;rcases j with j | ⟨k,t,j⟩
  ·exact hsd.ne m (by decide) j
  ·exact W k t j.symm)
 have F:=(m.set 13 (II n)).alloc (.cells #[PP c] 114);have D:=y.ay l (fun e=>z e.symm);go_enter Tryz.func260,Tryz.ntmps260;go_wp2_with (at_builtin;refine wpList_append_lies _ rfl _ _ _ rfl 0 114 i0 (.pointer none) 1 8 Tryz.underlying155 E hz0 hz1 hz2 rfl (by omega) (.slice s n cap) n (vU n h) rfl ?hown ⟨w.heap.size,0,none⟩ 1 1 [PP c] rfl rfl ?hnews ?hone (by omega) ?h63 ?hbytes (by omega) (w.heap.size+1) ?hH ?hrest)
 case hown=>exact v.owns
 case hnews =>
  have e:=cell_one_new (w.setCell ⟨c,13,none⟩ (II n)) (PP c) 114;have N:(w.setCell ⟨c,13,none⟩ (II n)).heap.size=w.heap.size:=by simp[World.setCell]
  rw[N]at e;exact e
 case hone=>intro u I;simp at I;subst I;rfl
 case h63=>unfold maxLen;omega
 case hbytes=>omega
 case hH=>simp
 case hrest =>
  intro g K w2 H r o hlt;rw[Iw]at r o;have V:some d≠ig s:=fun e=>hsd.ne l (by decide) e.symm
  have X:some c≠ig s:=fun e=>hsd.ne m (by decide) e.symm
  have U:=aj.grown (S:=fun b=>b=d\/b=c\/ig s=some b) (y.mono (fun b j=>.inr (.inl j))) r (fun k e=>.inl (.inr (.inr e)));have q:au w2 d x 158:=(r.block d D.lt V).trans D;have Y:au w2 c _ 116:=(r.block c F.lt X).trans F;have G:∀k,k<n->bV w2 (h k) (om (h k)) k:=fun k t=>(r.block (h k) (v.bg t).lt (fun e=>v.ne (v.bg t) (by decide) e.symm)).trans (v.bg t)
  have cb2:=(q.cell f).trans A;have fb2:=q.frozen f;have J:=ai H;clear M L O Z H;go_wp2;go_end0;refine⟨rfl,g,K,q.set f _,?_,U.setCell (.inl (.inl rfl)) _,?_⟩
  ·obtain⟨P,Q,cs,C,R,T⟩:=KP (h:=fun k=>if k=n then c else h k) (by rw[<-OL];exact ae J);refine⟨⟨cs,C.other ?_ _,R,T⟩,?_,P,by omega,Q⟩
   ·exact Ne.symm (au.ne q C (by decide))
   ·intro i E;by_cases e:i=n
    ·subst e;rw[if_pos rfl];exact Y.other z _
    ·rw[if_neg e];exact (G i (by omega)).other (au.ne (G i (by omega)) q (by decide)) _
  ·rcases o with o | o
   ·exact .inl o
   ·right;omega
theorem Fe(g d c n cap:Nat)(m:Array Value)(h:Nat->Nat)(om:Nat->Ord)(w:World)(j:au w g m 158)(s:m[d]?=some (.slice (some ⟨c,0,none⟩) (n+1) cap))(f:kR w c cap (n+1) h om) :
 CT 259 #[.pointer (some ⟨g,d,none⟩)] w fun e w'=>e=.returned (.iface 114 (PP (h n))) /\
  au w' g (m.setIfInBounds d (.slice (some ⟨c,0,none⟩) n cap)) 158/\kR w' c cap n h om/\bV w' (h n) (om (h n)) n/\aj (fun b=>b=g\/b=c) w w':=by
 have v:=(j.cell d).trans s;have z:=j.frozen d;obtain⟨cs,k,r,o⟩:=f.sD;have u:=(k.cell n).trans (o n (by omega));have y:=k.frozen n;have l:c≠g:=au.ne k j (by decide);have C:=f.small;have B:=f.le;have D:(0:Int)<=(n:Int):=by omega
 have E:(n:Int)<(n:Int)+1:=by omega
 have F:(n:Int)<=(cap:Int):=by omega
 have x:(w.setCell ⟨c,n,none⟩ (.pointer none)).cell? ⟨g,d,none⟩=some (.slice (some ⟨c,0,none⟩) (n+1) cap):=((j.other (a:=⟨c,n,none⟩) (fun e=>l e.symm) _).cell d).trans s;have A:(w.setCell ⟨c,n,none⟩ (.pointer none)).frozen? ⟨g,d,none⟩=false:=(j.other (a:=⟨c,n,none⟩) (fun e=>l e.symm) _).frozen d;have q:Hid (cs.size=cap/\∀i,i<n+1->cs[i]?=some (PP (h i))):=⟨r,o⟩;clear o r;go_enter Tryz.func259,Tryz.ntmps259;go_wp2;go_ret;refine⟨rfl,(j.other (fun e=>l e.symm) _).set d _,?_,?_,?_⟩
 ·refine⟨⟨_,(k.set n _).other l _,by simpa using q.out.1,fun i t=>?_⟩,fun i t=>?_,by omega,by omega,f.NR⟩
  ·rw[Array.getElem?_setIfInBounds_ne (by omega)];exact q.out.2 i (by omega)
  ·exact ((f.ord i (by omega)).other (au.ne (f.ord i (by omega)) k (by decide)) _).other (au.ne (f.ord i (by omega)) j (by decide)) _
 ·exact ((f.ord n (by omega)).other (au.ne (f.ord n (by omega)) k (by decide)) _).other (au.ne (f.ord n (by omega)) j (by decide)) _
 ·exact ((aj.refl (fun b=>b=g\/b=c) w).setCell (p:=⟨c,n,none⟩) (.inl (.inr rfl)) _).setCell (p:=⟨g,d,none⟩) (.inl (.inl rfl)) _
theorem PT{s:Option Addr}{a:Nat}(h:s=some ⟨a,0,none⟩):ig s=some a:=by subst h;rfl
theorem Oi(c a d n cap:Nat)(s:Option Addr)(f:Array Value)(h:Nat->Nat)(om:Nat->Ord)(u:Int)(w:World)(x:au w c f 158)(r:f[a]?=some (.slice s n cap))(H:jk w s n cap h om)
 (F:bV w d (om d) u) (E:∀k,k<n->h k≠d) (C:n<1000) :
 CT 150 #[.iface 216 (.pointer (some ⟨c,a,none⟩)),.iface 114 (PP d)] w fun e w'=>e=.returned (.tuple #[]) /\
  ∃g cap',au w' c (f.setIfInBounds a (.slice (some ⟨g,0,none⟩) (n+1) cap')) 158/\kR w' g cap' (n+1) (uQ (fE om) (fun k=>if k=n then d else h k) n) om /\
   aj (fun b=>b=c\/b=d\/ig s=some b\/∃k,k<n/\b=h k) w w'/\(ig s=some g\/w.heap.size<=g):=by
 have A:=Rj ⟨c,a,none⟩ w;have z:a<f.size:=(Array.getElem?_eq_some_iff.1 r).1;go_enter Tryz.func150,Tryz.ntmps150;go_wp2_with fail;refine (Sm c a d n cap s f h om u w x r H F E C).mono ?_;rintro e v ⟨rfl,g,i,j,m,y,p⟩;have t:(f.setIfInBounds a (.slice (some ⟨g,0,none⟩) (n+1) i))[a]?=some (.slice (some ⟨g,0,none⟩) (n+1) i):=Array.getElem?_setIfInBounds_self_of_lt z;have B:=MQ ⟨c,a,none⟩ v (some ⟨g,0,none⟩) (n+1) i ((j.cell a).trans t);clear A;go_wp2_with fail;refine (EP (some ⟨g,0,none⟩) (n+1) i v).mono ?_;rintro e w2 ⟨rfl,rfl⟩;clear B;have I:(((n+1:Nat):Int)-1)=(n:Int):=by omega
 go_wp2_with fail;refine (TA c a g i (n+1) n _ _ om _ j t m (by omega)).mono ?_;rintro e J ⟨rfl,G,o⟩;go_wp2;go_end0;have D:¬Sd g (n+1) (fun k=>if k=n then d else h k) c:=by
  rintro (rfl | ⟨k,q,rfl⟩)
  ·obtain⟨cs,l,_⟩:=m.sD;exact au.ne j l (by decide) rfl
  ·exact au.ne j (m.ord k q) (by decide) rfl
 refine⟨rfl,g,i,o.ay j D,G,?_,p⟩;refine aj.from (y.mono (fun b l=>by rcases l with h | h | h;exact .inl h;exact .inr (.inl h);exact jL h)) (o.mono ?_);rintro b (rfl | ⟨k,q,rfl⟩)
 ·rcases p with h | h
  ·exact .inl (jL h)
  ·exact .inr h
 ·left;by_cases e:k=n
  ·exact .inr (.inl (by simp[e]))
  ·exact .inr (.inr (.inr ⟨k,by omega,by simp[e]⟩))
def eG(lt:Nat->Nat->Bool)(h:Nat->Nat)(n i:Nat):Nat->Nat :=
 if i=n then h else if i<(dY lt n (sw h i n) i).2 then (dY lt n (sw h i n) i).1 else uQ lt (dY lt n (sw h i n) i).1 i
theorem kE{h:Nat->Nat}{i j k:Nat}(a:k≠i)(b:k≠j):sw h i j k=h k:=by unfold sw;rw[if_neg a,if_neg b]
theorem N7{lt:Nat->Nat->Bool}{n:Nat}{k:Nat}(a:n<=k)(h:Nat->Nat)(i:Nat):(dY lt n h i).1 k=h k:=by
 fun_induction dY lt n h i with
 | case1 h i hn _ hl ih =>
   rw[ih];have:=qI lt n h i hn;exact kE (by omega) (by omega)
 | case2=>rfl
 | case3=>rfl
theorem Vo{lt:Nat->Nat->Bool}{k:Nat}(h:Nat->Nat)(j:Nat)(a:j<k):(uQ lt h j) k=h k:=by
 fun_induction uQ lt h j with
 | case1=>rfl
 | case2 h j hj hl ih =>
   rw[ih (by omega)];exact kE (by omega) (by omega)
 | case3=>rfl
theorem rM{lt:Nat->Nat->Bool}{h:Nat->Nat}{n i:Nat}(b:i<=n):eG lt h n i n=h i:=by
 unfold eG;split
 ·rename_i e;rw[e]
 ·have a:(dY lt n (sw h i n) i).1 n=h i:=by
   rw[N7 (Nat.le_refl _)];unfold sw;rw[if_neg (by omega),if_pos rfl]
  split
  ·exact a
  ·rw[Vo _ _ (by omega)];exact a
theorem Uh{lt:Nat->Nat->Bool}{a N n:Nat}{h:Nat->Nat}{i:Nat}(b:i<=n)(c:n<=N):Sd a N (dY lt n h i).1=Sd a N h:=by
 fun_induction dY lt n h i with
 | case1 h i hn' _ hl ih =>
   have:=qI lt n h i hn';rw[ih (by omega),zG (by omega) (by omega)]
 | case2=>rfl
 | case3=>rfl
theorem Le(c d a n cap i:Nat)(f:Array Value)(h:Nat->Nat)(om:Nat->Ord)(w:World)(j:au w c f 158)(g:f[d]?=some (.slice (some ⟨a,0,none⟩) (n+1) cap))(u:kR w a cap (n+1) h om)(y:i<=n) :
 CT 149 #[.iface 216 (.pointer (some ⟨c,d,none⟩)),II i] w fun e w'=>e=.returned (.iface 114 (PP (h i))) /\
  au w' c (f.setIfInBounds d (.slice (some ⟨a,0,none⟩) n cap)) 158/\kR w' a cap n (eG (fE om) h n i) om/\bV w' (h i) (om (h i)) n/\aj (fun b=>b=c\/Sd a (n+1) h b) w w':=by
 have H:=MQ ⟨c,d,none⟩ w (some ⟨a,0,none⟩) (n+1) cap ((j.cell d).trans g);have V:=u.small;have D:¬Sd a (n+1) h c:=by
  rintro (rfl | ⟨k,O,rfl⟩)
  ·obtain⟨cs,p,_⟩:=u.sD;exact au.ne j p (by decide) rfl
  ·exact au.ne j (u.ord k O) (by decide) rfl
 by_cases z:i=n
 ·subst z;go_enter Tryz.func149,Tryz.ntmps149;go_wp2_with fail;refine (EP (some ⟨a,0,none⟩) (i+1) cap w).mono ?_;rintro e w2 ⟨rfl,rfl⟩;have t:=EZ ⟨c,d,none⟩ w2;clear H;go_wp2_with fail;refine (Fe c d a i cap f h om _ j g u).mono ?_;rintro e S ⟨rfl,v,E,Q,q⟩;clear t;go_wp2;go_ret;refine⟨rfl,v,?_,Q,q.mono ?_⟩
  ·unfold eG;rw[if_pos rfl];exact E
  ·rintro b (rfl | rfl)
   ·exact .inl rfl
   ·exact .inr (.inl rfl)
 ·have U:((n:Int) != (i:Int))=true:=by simp;omega
  go_enter Tryz.func149,Tryz.ntmps149;go_wp2_with fail;refine (EP (some ⟨a,0,none⟩) (n+1) cap w).mono ?_;rintro e w2 ⟨rfl,rfl⟩;have P:=tY ⟨c,d,none⟩ w2 (some ⟨a,0,none⟩) (n+1) cap ((j.cell d).trans g);clear H;go_wp2_with fail;refine (yg a cap (n+1) i n h om _ u (by omega) (by omega) z).mono ?_;rintro e S ⟨rfl,E,q⟩;have v:=q.ay j D;clear P;go_wp2_with fail;refine (Ql c d a cap (n+1) n i f _ om _ v g E (by omega) y).mono ?_;rintro e T ⟨rfl,F,x⟩;rw[zG (by omega) (by omega)]at x;have B:=x.ay v D;by_cases l:i<(dY (fE om) n (sw h i n) i).2
  ·have s:decide (i<(dY (fE om) n (sw h i n) i).2)=true:=by simp[l]
   rw[s];have t:=EZ ⟨c,d,none⟩ T;have o:(dY (fE om) n (sw h i n) i).1=eG (fE om) h n i:=by unfold eG;rw[if_neg z,if_pos l]
   rw[o]at F;have G:=rM (lt:=fE om) (h:=h) y;have m:=ai G;clear o l s G;go_wp2_with fail;refine (Fe c d a n cap f _ om _ B g F).mono ?_;rintro e K ⟨rfl,C,A,I,r⟩;clear t;rw[ae m];rw[ae m]at I;go_wp2;go_ret;refine⟨rfl,C,A,I,((q.trans x).mono (fun b p=>.inr p)).trans (r.mono ?_)⟩;rintro b (rfl | rfl)
   ·exact .inl rfl
   ·exact .inr (.inl rfl)
  ·have s:decide (i<(dY (fE om) n (sw h i n) i).2)=false:=by simp[l]
   rw[s];have o:uQ (fE om) (dY (fE om) n (sw h i n) i).1 i=eG (fE om) h n i:=by unfold eG;rw[if_neg z,if_neg l]
   have HS:Hid (Sd a (n+1) (dY (fE om) n (sw h i n) i).1=Sd a (n+1) h):=by
    show _=_;rw[Uh y (by omega),zG (by omega) (by omega)]
   have L:=ai o;clear o l s;go_wp2_with fail;refine (TA c d a cap (n+1) i f _ om _ B g F (by omega)).mono ?_;rintro e K ⟨rfl,A,r⟩;rw[ae HS]at r;have C:=r.ay B D;have t:=EZ ⟨c,d,none⟩ K;rw[ae L]at A;have m:=ai (rM (lt:=fE om) (h:=h) y);go_wp2_with fail;refine (Fe c d a n cap f _ om _ C g A).mono ?_;rintro e W ⟨rfl,M,R,J,N⟩;clear t;rw[ae m];rw[ae m]at J;go_wp2;go_ret;refine⟨rfl,M,R,J,(((q.trans x).trans r).mono (fun b p=>.inr p)).trans (N.mono ?_)⟩;rintro b (rfl | rfl)
   ·exact .inl rfl
   ·exact .inr (.inl rfl)
structure Ug(lt:Nat->Nat->Bool)(P:Nat->Prop):Prop where
 Uk:∀x y,P x->P y->lt x y=true->lt y x=false
 trans:∀x y z,P x->P y->P z->lt y x=false->lt z y=false->lt z x=false
 irr:∀x,P x->lt x x=false
def par(k:Nat):Nat:=(k-1) / 2
def ed(lt:Nat->Nat->Bool)(n:Nat)(h:Nat->Nat):Prop:=∀k,0<k->k<n->lt (h k) (h (par k))=false
theorem A7{lt:Nat->Nat->Bool}{P:Nat->Prop}(pre:Ug lt P){n:Nat}{h:Nat->Nat}(ok:ed lt n h)(a:∀k,k<n->P (h k)):∀k,k<n->lt (h k) (h 0)=false:=by
 intro k
 induction k using Nat.strongRecOn with
 | _ k ih =>
   intro b;by_cases h0:k=0
   ·subst h0;exact pre.irr _ (a 0 b)
   ·have c:par k<k:=by unfold par;omega
    exact pre.trans (h 0) (h (par k)) (h k) (a 0 (by omega)) (a _ (by omega)) (a k b) (ih (par k) c (by omega)) (ok k (by omega) b)
def YJ(lt:Nat->Nat->Bool)(n:Nat)(h:Nat->Nat)(j:Nat):Prop :=
 (∀k,0<k->k<n->k≠j->lt (h k) (h (par k))=false)/\(∀c,0<c->c<n->par c=j->0<j->lt (h c) (h (par j))=false)
theorem FQ(h:Nat->Nat)(i j:Nat):sw h i j i=h j:=by unfold sw;rw[if_pos rfl]
theorem Lu(h:Nat->Nat)(i j:Nat):sw h i j j=h i:=by
 unfold sw;split
 ·rename_i e;rw[e]
 ·rw[if_pos rfl]
theorem Yj{P:Nat->Prop}{n:Nat}{h:Nat->Nat}(a:∀k,k<n->P (h k)){i j:Nat}(b:i<n)(c:j<n):∀k,k<n->P (sw h i j k):=by
 intro k d;unfold sw;split
 ·exact a j c
 ·split
  ·exact a i b
  ·exact a k d
theorem TB{lt:Nat->Nat->Bool}{P:Nat->Prop}(pre:Ug lt P){n:Nat}(h:Nat->Nat)(j:Nat)(a:∀k,k<n->P (h k))(l:j<n)(f:YJ lt n h j):ed lt n (uQ lt h j):=by
 fun_induction uQ lt h j with
 | case1 h=>exact fun k h0 d=>f.1 k h0 d (by omega)
 | case3 h j hj0 hl =>
   intro k h0 d;by_cases e:k=j
   ·subst e;simpa [par] using hl
   ·exact f.1 k h0 d e
 | case2 h j hj0 hl ih =>
   have v:(j-1) / 2<j:=by omega
   have u:par j=(j-1) / 2:=rfl;have q:=pre.Uk _ _ (a j l) (a _ (by omega)) hl;refine ih (Yj a (by omega) l) (by omega) ⟨?_,?_⟩
   ·intro k h0 d s;by_cases b:k=j
    ·subst b;rw[u,Lu,FQ];exact q
    ·rw[kE s b];by_cases g:par k=(j-1) / 2
     ·rw[g,FQ];have:=f.1 k h0 d b;rw[g]at this;exact pre.trans _ _ _ (a j l) (a _ (by omega)) (a k d) q this
     ·by_cases i:par k=j
      ·rw[i,Lu];exact f.2 k h0 d i (by omega)
      ·rw[kE g i];exact f.1 k h0 d b
   ·intro c h0 p r t;have w:par ((j-1) / 2)<(j-1) / 2:=by unfold par;omega
    rw[kE (k:=par ((j-1) / 2)) (by omega) (by omega)];have m:lt (h ((j-1) / 2)) (h (par ((j-1) / 2)))=false:=f.1 _ t (by omega) (by omega);by_cases b:c=j
    ·subst b;rw[Lu];exact m
    ·have g:c≠(j-1) / 2:=by unfold par at r;omega
     rw[kE g b];have o:=f.1 c h0 p b;rw[r]at o;exact pre.trans _ _ _ (a _ (by omega)) (a _ (by omega)) (a c p) m o
def Pz(lt:Nat->Nat->Bool)(n:Nat)(h:Nat->Nat)(i:Nat):Prop :=
 (∀k,0<k->k<n->k≠i->par k≠i->lt (h k) (h (par k))=false)/\(∀c,0<c->c<n->par c=i->0<i->lt (h c) (h (par i))=false)
theorem EM{lt:Nat->Nat->Bool}{P:Nat->Prop}(pre:Ug lt P){n:Nat}{h:Nat->Nat}(a:∀k,k<n->P (h k)){i:Nat}(g:2 * i+1<n){c:Nat}(h0:0<c)(b:c<n)(f:par c=i):lt (h c) (h (zo lt n h i))=false:=by
 have:c=2 * i+1\/c=2 * i+2:=by unfold par at f;omega
 unfold zo;split
 ·rename_i d;rcases this with rfl | rfl
  ·exact pre.Uk _ _ (a _ d.1) (a _ b) d.2
  ·exact pre.irr _ (a _ b)
 ·rename_i d;rcases this with rfl | rfl
  ·exact pre.irr _ (a _ b)
  ·by_cases e:lt (h (2 * i+2)) (h (2 * i+1))=true
   ·exact absurd ⟨b,e⟩ d
   ·simpa using e
theorem UN(lt:Nat->Nat->Bool)(n:Nat)(h:Nat->Nat)(i:Nat):par (zo lt n h i)=i:=by
 unfold par zo;split <;> omega
theorem CW{lt:Nat->Nat->Bool}{P:Nat->Prop}(pre:Ug lt P){n:Nat}{h:Nat->Nat}{i:Nat}(j:∀k,k<n->P (h k))(p:2 * i+1<n)(g:Pz lt n h i)(s:lt (h (zo lt n h i)) (h i)=true) :
 (∀k,0<k->k<n->par k≠zo lt n h i->lt (sw h i (zo lt n h i) k) (sw h i (zo lt n h i) (par k))=false)/\Pz lt n (sw h i (zo lt n h i)) (zo lt n h i):=by
 have o:=qI lt n h i p;have l:=UN lt n h i;have u:=fun {c:Nat}=>EM pre (h:=h) j p (c:=c)
 generalize zo lt n h i=a at *;have t:=pre.Uk _ _ (j a o.2) (j i (by omega)) s;have q:∀k,0<k->k<n->par k≠a->lt (sw h i a k) (sw h i a (par k))=false:=by
  intro k h0 d e;have w:par k<k:=by unfold par;omega
  by_cases f:k=i
  ·subst f;rw[FQ,kE (by omega) e];exact g.2 a (by omega) o.2 l h0
  ·by_cases m:k=a
   ·subst m;rw[Lu,l,FQ];exact t
   ·rw[kE f m];by_cases b:par k=i
    ·rw[b,FQ];exact u h0 d b
    ·rw[kE b e];exact g.1 k h0 d f b
 refine⟨q,fun k h0 d _ e=>q k h0 d e,?_⟩;intro c h0 r v _;rw[l,FQ];have w:par c<c:=by unfold par;omega
 rw[kE (by omega) (by omega)];have:=g.1 c h0 r (by omega) (by omega);rw[v]at this;exact this
theorem Uw{lt:Nat->Nat->Bool}{P:Nat->Prop}(pre:Ug lt P){n:Nat}(h:Nat->Nat)(i:Nat)(a:∀k,k<n->P (h k))(f:Pz lt n h i)(d:∀k,0<k->k<n->par k≠i->lt (h k) (h (par k))=false):ed lt n (dY lt n h i).1:=by
 fun_induction dY lt n h i with
 | case1 h i hn _ hl ih =>
   have c:=qI lt n h i hn;obtain⟨g,j⟩:=CW pre a hn f hl;exact ih (Yj a (by omega) c.2) j g
 | case2 h i hn _ hl =>
   intro k h0 b;by_cases e:par k=i
   ·have:=EM pre a hn h0 b e;have c:=qI lt n h i hn;rw[e];exact pre.trans _ _ _ (a i (by omega)) (a _ c.2) (a k b) (by simpa using hl) this
   ·exact d k h0 b e
 | case3 h i hn =>
   intro k h0 b;exact d k h0 b (by unfold par;omega)
theorem yF{lt:Nat->Nat->Bool}{P:Nat->Prop}(pre:Ug lt P){n:Nat}(h:Nat->Nat)(i:Nat)(b:∀k,k<n->P (h k))(c:Pz lt n h i) :
 ed lt n (dY lt n h i).1\/(dY lt n h i=(h,i)/\YJ lt n h i):=by
 by_cases a:2 * i+1<n
 ·cases hl:lt (h (zo lt n h i)) (h i)
  ·right;refine⟨oW a hl,?_,c.2⟩;intro k h0 d g;by_cases e:par k=i
   ·have:=EM pre b a h0 d e;have f:=qI lt n h i a;rw[e];exact pre.trans _ _ _ (b i (by omega)) (b _ f.2) (b k d) hl this
   ·exact c.1 k h0 d g e
  ·left;have f:=qI lt n h i a;obtain⟨j,l⟩:=CW pre b a c hl;rw[sW a hl];exact Uw pre _ _ (Yj b (by omega) f.2) l j
 ·right;refine⟨uA a,?_,c.2⟩;intro k h0 d g;exact c.1 k h0 d g (by unfold par;omega)
theorem Qk{lt:Nat->Nat->Bool}{n:Nat}(h:Nat->Nat)(i:Nat):i<=(dY lt n h i).2:=by
 fun_induction dY lt n h i with
 | case1 h i hn _ hl ih=>have:=qI lt n h i hn;omega
 | case2=>exact Nat.le_refl _
 | case3=>exact Nat.le_refl _
theorem Qj{lt:Nat->Nat->Bool}{n:Nat}(h:Nat->Nat)(i:Nat)(b:¬i<(dY lt n h i).2):dY lt n h i=(h,i):=by
 by_cases a:2 * i+1<n
 ·cases hl:lt (h (zo lt n h i)) (h i)
  ·exact oW a hl
  ·exfalso;rw[sW a hl]at b;have:=Qk (lt:=lt) (n:=n) (sw h i (zo lt n h i)) (zo lt n h i);have:=qI lt n h i a;omega
 ·exact uA a
theorem acm{lt:Nat->Nat->Bool}{P:Nat->Prop}{n:Nat}(h:Nat->Nat)(j:Nat)(a:∀k,k<n->P (h k))(b:j<n):∀k,k<n->P (uQ lt h j k):=by
 fun_induction uQ lt h j with
 | case1=>exact a
 | case3=>exact a
 | case2 h j hj0 hl ih=>exact ih (Yj a (by omega) b) (by omega)
theorem ZP{lt:Nat->Nat->Bool}{P:Nat->Prop}{n N:Nat}(b:n<=N)(h:Nat->Nat)(i:Nat)(a:∀k,k<N->P (h k)):∀k,k<N->P ((dY lt n h i).1 k):=by
 fun_induction dY lt n h i with
 | case1 h i hn _ hl ih =>
   have:=qI lt n h i hn;exact ih (Yj a (by omega) (by omega))
 | case2=>exact a
 | case3=>exact a
theorem DC{lt:Nat->Nat->Bool}{P:Nat->Prop}(pre:Ug lt P){n:Nat}(h:Nat->Nat)(i:Nat)(s:i<=n)(f:∀k,k<n+1->P (h k))(ok:ed lt (n+1) h):ed lt n (eG lt h n i):=by
 unfold eG;split
 ·exact fun k h0 g=>ok k h0 (by omega)
 ·rename_i t;have r:=Yj f (show i<n+1 by omega) (show n<n+1 by omega);have b:∀k,k<n->P (sw h i n k):=fun k g=>r k (by omega)
  have p:Pz lt n (sw h i n) i:=by
   refine⟨?_,?_⟩
   ·intro k h0 g a q;have:par k<k:=by unfold par;omega
    rw[kE a (by omega),kE q (by omega)];exact ok k h0 (by omega)
   ·intro c h0 l o m;have a:par c<c:=by unfold par;omega
    have q:par i<i:=by unfold par;omega
    rw[kE (by omega) (by omega),kE (by omega) (by omega)];have d:=ok c h0 (by omega);rw[o]at d;exact pre.trans _ _ _ (f _ (by omega)) (f i (by omega)) (f c (by omega)) (ok i m (by omega)) d
  split
  ·rename_i j;rcases yF pre _ _ b p with a | ⟨a,_⟩
   ·exact a
   ·rw[a]at j;exact absurd j (by simp)
  ·rename_i j;have e:=Qj _ _ j;rw[e];rcases yF pre _ _ b p with a | ⟨_,a⟩
   ·rw[e]at a;refine TB pre _ _ b (by omega) ⟨fun k h0 g _=>a k h0 g,?_⟩;intro c h0 l o m;have d:=a c h0 l;rw[o]at d;exact pre.trans _ _ _ (b _ (by unfold par;omega)) (b i (by omega)) (b c l) (a i m (by omega)) d
   ·exact TB pre _ _ b (by omega) a
theorem Ff{lt:Nat->Nat->Bool}{P:Nat->Prop}(pre:Ug lt P){n:Nat}(h:Nat->Nat)(x:Nat)(f:P x)(a:∀k,k<n->P (h k))(ok:ed lt n h):ed lt (n+1) (uQ lt (fun k=>if k=n then x else h k) n):=by
 refine TB pre _ _ (fun k b=>?_) (by omega) ⟨?_,?_⟩
 ·by_cases e:k=n
  ·simp only[e,if_true];exact f
  ·simp only[e,if_false];exact a k (by omega)
 ·intro k h0 b d;have:par k<k:=by unfold par;omega
  simp only[d,if_false,show par k≠n by omega];exact ok k h0 (by omega)
 ·intro c h0 g i _;have:par c<c:=by unfold par;omega
  omega
def Mem(n:Nat)(h:Nat->Nat)(x:Nat):Prop:=∃k,k<n/\x=h k
theorem WS(n:Nat)(h:Nat->Nat):∀k,k<n->Mem n h (h k):=fun k a=>⟨k,a,rfl⟩
theorem EY{n:Nat}{h:Nat->Nat}{i j:Nat}(f:i<n)(g:j<n)(x:Nat):Mem n (sw h i j) x↔Mem n h x:=by
 have d:∀h:Nat->Nat,∀x,Mem n (sw h i j) x->Mem n h x:=by
  rintro h x ⟨k,l,rfl⟩;exact Yj (WS n h) f g k l
 constructor
 ·exact d h x
 ·intro c;have e:sw (sw h i j) i j=h:=by
   funext k;by_cases a:k=i
   ·subst a;rw[FQ,Lu]
   ·by_cases b:k=j
    ·subst b;rw[Lu,FQ]
    ·rw[kE a b,kE a b]
  rw[<-e]at c;exact d _ x c
theorem Ri{lt:Nat->Nat->Bool}{n:Nat}(h:Nat->Nat)(j:Nat)(a:j<n)(x:Nat):Mem n (uQ lt h j) x↔Mem n h x:=by
 fun_induction uQ lt h j with
 | case1=>rfl
 | case3=>rfl
 | case2 h j hj0 hl ih=>rw[ih (by omega),EY (by omega) a]
theorem Ik{lt:Nat->Nat->Bool}{n N:Nat}(a:n<=N)(h:Nat->Nat)(i:Nat)(x:Nat):Mem N (dY lt n h i).1 x↔Mem N h x:=by
 fun_induction dY lt n h i with
 | case1 h i hn _ hl ih =>
   have:=qI lt n h i hn;rw[ih,EY (by omega) (by omega)]
 | case2=>rfl
 | case3=>rfl
theorem jf{lt:Nat->Nat->Bool}{n:Nat}(h:Nat->Nat)(x y:Nat):Mem (n+1) (uQ lt (fun k=>if k=n then x else h k) n) y↔Mem n h y\/y=x:=by
 rw[Ri _ _ (by omega)];constructor
 ·rintro⟨k,a,rfl⟩;by_cases e:k=n
  ·right;simp[e]
  ·left;exact⟨k,by omega,by simp[e]⟩
 ·rintro (⟨k,a,rfl⟩ | rfl)
  ·exact⟨k,by omega,by simp[show k≠n by omega]⟩
  ·exact⟨n,by omega,by simp⟩
theorem qf{lt:Nat->Nat->Bool}{n:Nat}(h:Nat->Nat)(i:Nat)(a:i<=n)(y:Nat):Mem (n+1) (eG lt h n i) y↔Mem (n+1) h y:=by
 unfold eG;split
 ·rfl
 ·split
  ·rw[Ik (by omega),EY (by omega) (by omega)]
  ·rw[Ri _ _ (by omega),Ik (by omega),EY (by omega) (by omega)]
theorem jY{lt:Nat->Nat->Bool}{n:Nat}(h:Nat->Nat)(i:Nat)(c:i<=n)(inj:∀a b,a<n+1->b<n+1->eG lt h n i a=eG lt h n i b->a=b)(y:Nat) :
 Mem n (eG lt h n i) y↔Mem (n+1) h y/\y≠h i:=by
 rw[<-qf (lt:=lt) h i c y];have d:=rM (lt:=lt) (h:=h) c;constructor
 ·rintro⟨k,f,rfl⟩;refine⟨⟨k,by omega,rfl⟩,fun e=>?_⟩;rw[<-d]at e;have:=inj k n (by omega) (by omega) e;omega
 ·rintro⟨⟨k,f,rfl⟩,g⟩;refine⟨k,?_,rfl⟩;by_cases e:k=n
  ·subst e;exact absurd d g
  ·omega
attribute [local go_sem ↓] Go.wp_at_zero Go.wp_at_succ
theorem mV(s:Int)(w:World)(h0:0<=s)(a:s<=1):CT 154 #[II s] w fun e w'=>e=.returned (II (1-s))/\w'=w:=by
 go_enter Tryz.func154,Tryz.ntmps154;go_wp2;go_ret;exact⟨rfl,rfl⟩
structure iR where
 id:Int
 aG:Int
 sym:ByteArray
 side:Int
 kind:Int
 af:Int
 az:Int
def iR.val(o:iR):Value:=.agg #[II o.id,II o.aG,.string o.sym,II o.side,II o.kind,II o.af,II o.az]
def iC(kind side af p:Int):Bool:=if kind=5 then true else if side=0 then decide (p<=af) else decide (af<=p)
theorem qH(o:iR)(p:Int)(w:World):CT 155 #[o.val,II p] w fun e w'=>e=.returned (.bool (iC o.kind o.side o.af p))/\aj aA w w':=by
 obtain⟨id,i,sym,side,c,af,az⟩:=o;simp only[iR.val];by_cases a:c=5
 ·have f:(c == 5)=true:=by simp[a]
  have d:Hid (iC c side af p=true):=by show _=_;unfold iC;rw[if_pos a]
  clear a;go_enter Tryz.func155,Tryz.ntmps155;go_wp2;go_ret;exact⟨by rw[d.out];rfl,(aj.refl _ _).alloc _⟩
 ·have f:(c == 5)=false:=by simp[a]
  by_cases b:side=0
  ·have g:(side == 0)=true:=by simp[b]
   have d:Hid (iC c side af p=decide (p<=af)):=by show _=_;unfold iC;rw[if_neg a,if_pos b]
   clear a b;go_enter Tryz.func155,Tryz.ntmps155;go_wp2;go_ret;exact⟨by rw[d.out];rfl,(aj.refl _ _).alloc _⟩
  ·have g:(side == 0)=false:=by simp[b]
   have d:Hid (iC c side af p=decide (af<=p)):=by show _=_;unfold iC;rw[if_neg a,if_neg b]
   clear a b;go_enter Tryz.func155,Tryz.ntmps155;go_wp2;go_ret;exact⟨by rw[d.out];rfl,(aj.refl _ _).alloc _⟩
structure Bk where
 sym:ByteArray
 sl:Nat->Option Addr
 n:Nat->Nat
 cap:Nat->Nat
 h:Nat->Nat->Nat
 places:Int
def Bk.cells(B:Bk):Array Value:=#[.string B.sym,.slice (B.sl 0) (B.n 0) (B.cap 0),.slice (B.sl 1) (B.n 1) (B.cap 1),II B.places]
structure bM(w:World)(bb:Nat)(B:Bk)(om:Nat->Ord):Prop where
 ay:au w bb B.cells 158
 side:∀s,s<2->jk w (B.sl s) (B.n s) (B.cap s) (B.h s) om
 apart:∀a,ig (B.sl 0)=some a->ig (B.sl 1)≠some a
 vI:∀k j,k<B.n 0->j<B.n 1->B.h 0 k≠B.h 1 j
theorem bM.aC{w w':World}{c:Nat}{B:Bk}{om:Nat->Ord}(a:bM w c B om){S:Nat->Prop}(k:aj S w w')(d:∀b,(b=c\/∃s,s<2/\(ig (B.sl s)=some b\/∃k,k<B.n s/\b=B.h s k))->¬S b):bM w' c B om :=
 ⟨k.ay a.ay (d _ (.inl rfl)),fun s hs=>(a.side s hs).aC k (fun b h=>d b (.inr ⟨s,hs,h⟩)),a.apart,a.vI⟩
theorem Bk.vH(B:Bk){s:Nat}(hs:s<2):B.cells[1+s]?=some (.slice (B.sl s) (B.n s) (B.cap s)):=by
 have:s=0\/s=1:=by omega
 rcases this with rfl | rfl <;> rfl
theorem bM.GI{w:World}{a:Nat}{B:Bk}{om:Nat->Ord}(b:bM w a B om){s:Nat}(hs:s<2):w.cell? ⟨a,1+s,none⟩=some (.slice (B.sl s) (B.n s) (B.cap s)):=(b.ay.cell _).trans (B.vH hs)
def dA(B:Bk)(om:Nat->Ord)(o:iR)(s:Nat):Option Nat:=if B.n s=0 then none else if iC o.kind o.side o.af (om (B.h s 0)).af=true then some (B.h s 0) else none
def ja:Option Nat->Value
 | none=>.pointer none
 | some b=>PP b
theorem kV(g:Nat)(B:Bk)(om:Nat->Ord)(o:iR)(s:Nat)(w:World)(i:bM w g B om)(hs:s<2)(v:o.side=1-(s:Int)) :
 CT 123 #[PP g,o.val] w fun e w'=>e=.returned (ja (dA B om o s))/\aj aA w w':=by
 have M:=i.ay.lt;have m:=i.side s hs;by_cases j:B.n s=0
 ·have J:((B.n s:Int) == 0)=true:=by simp[j]
  have f:Hid (dA B om o s=none):=by show _=_;unfold dA;rw[if_pos j]
  obtain⟨id,d,sym,side,b,af,az⟩:=o;simp only at v;subst v;simp only[iR.val];clear j;have:s=0\/s=1:=by omega
  rcases this with rfl | rfl
  ·have q:CC w g 1 (.slice (B.sl 0) (B.n 0) (B.cap 0)):=i.ay.cell 1;go_enter Tryz.func123,Tryz.ntmps123;go_wp2;go_quiet ((go_at_call 154;exact Calls.quiet_of_same (mV _ _ (by omega) (by omega))));go_wp2;go_quiet (fail);go_wp2;go_ret;exact⟨by rw[f.out];rfl,(by repeat (first | exact aj.refl _ _ | refine aj.drewN ?_ _ | refine aj.drew ?_ | refine aj.alloc ?_ _))⟩
  ·have q:CC w g 2 (.slice (B.sl 1) (B.n 1) (B.cap 1)):=i.ay.cell 2;go_enter Tryz.func123,Tryz.ntmps123;go_wp2;go_quiet ((go_at_call 154;exact Calls.quiet_of_same (mV _ _ (by omega) (by omega))));go_wp2;go_quiet (fail);go_wp2;go_ret;exact⟨by rw[f.out];rfl,(by repeat (first | exact aj.refl _ _ | refine aj.drewN ?_ _ | refine aj.drew ?_ | refine aj.alloc ?_ _))⟩
 ·have J:((B.n s:Int) == 0)=false:=by simp;omega
  rcases m with⟨_,h0,_⟩ | ⟨c,u,m⟩
  ·exact absurd h0 j
  obtain⟨cs,l,K,x⟩:=m.sD;have L:=(l.cell 0).trans (x 0 (by omega));have I:=(m.ord 0 (by omega)).cell 5;simp only[Ord.cells]at I;simp at I;have O:0<B.n s:=by omega
  have N:=l.lt;have r:=m.ord 0 (by omega);have lo:=r.lt;have t:=x 0 (by omega);clear x K m;obtain⟨id,d,sym,side,b,af,az⟩:=o;simp only at v;subst v;simp only[iR.val];cases hg:iC b (1-(s:Int)) af (om (B.h s 0)).af
  ·have f:Hid (dA B om ⟨id,d,sym,1-(s:Int),b,af,az⟩ s=none):=by show _=_;unfold dA;rw[if_neg j,if_neg (by simp[hg])]
   clear j;have:s=0\/s=1:=by omega
   rcases this with rfl | rfl
   ·have k:iC b 1 af (om (B.h 0 0)).af=false:=hg;clear hg;have q:CC w g 1 (.slice (some ⟨c,0,none⟩) (B.n 0) (B.cap 0)):=(i.ay.cell 1).trans (by rw[<-u];rfl);go_enter Tryz.func123,Tryz.ntmps123;go_wp2;go_quiet ((go_at_call 154;exact Calls.quiet_of_same (mV _ _ (by omega) (by omega))));go_wp2;go_region_held3 (fun w'=>w'.cell? ⟨w.heap.size,0,none⟩=some (II id)/\w'.cell? ⟨w.heap.size,1,none⟩=some (II d)/\w'.cell? ⟨w.heap.size,2,none⟩=some (.string sym)/\w'.cell? ⟨w.heap.size,3,none⟩=some (II 1)/\w'.cell? ⟨w.heap.size,4,none⟩=some (II b)/\w'.cell? ⟨w.heap.size,5,none⟩=some (II af)/\w'.cell? ⟨w.heap.size,6,none⟩=some (II az)/\w'.cell? ⟨c,0,none⟩=some (PP (B.h 0 0))/\w'.cell? ⟨B.h 0 0,5,none⟩=some (II (om (B.h 0 0)).af)) (go_keep)
     (first | (go_at_call 155;refine (qH ⟨id,d,sym,1,b,af,az⟩ _ _).mono ?_;rintro e w2 ⟨rfl,a⟩;rw[k];have y:=a.cell (p:=⟨w.heap.size,0,none⟩) ((au.new w _ _).cell 0) idd;have z:=a.cell (p:=⟨w.heap.size,1,none⟩) ((au.new w _ _).cell 1) idd;have A:=a.cell (p:=⟨w.heap.size,2,none⟩) ((au.new w _ _).cell 2) idd;have C:=a.cell (p:=⟨w.heap.size,3,none⟩) ((au.new w _ _).cell 3) idd;have D:=a.cell (p:=⟨w.heap.size,4,none⟩) ((au.new w _ _).cell 4) idd;have E:=a.cell (p:=⟨w.heap.size,5,none⟩) ((au.new w _ _).cell 5) idd;have F:=a.cell (p:=⟨w.heap.size,6,none⟩) ((au.new w _ _).cell 6) idd;have G:=a.cell (p:=⟨c,0,none⟩) (((l.alloc _).cell 0).trans t) idd;have H:CC w2 (B.h 0 0) 5 (II (om (B.h 0 0)).af):=a.cell (p:=⟨B.h 0 0,5,none⟩) ((r.alloc _).cell 5) idd))
    go_wp2;go_ret;exact⟨by rw[f.out];rfl,aj.trans (by repeat (first | exact aj.refl _ _ | refine aj.drewN ?_ _ | refine aj.drew ?_ | refine aj.alloc ?_ _)) a⟩
   ·have k:iC b 0 af (om (B.h 1 0)).af=false:=hg;clear hg;have q:CC w g 2 (.slice (some ⟨c,0,none⟩) (B.n 1) (B.cap 1)):=(i.ay.cell 2).trans (by rw[<-u];rfl);go_enter Tryz.func123,Tryz.ntmps123;go_wp2;go_quiet ((go_at_call 154;exact Calls.quiet_of_same (mV _ _ (by omega) (by omega))));go_wp2;go_region_held3 (fun w'=>w'.cell? ⟨w.heap.size,0,none⟩=some (II id)/\w'.cell? ⟨w.heap.size,1,none⟩=some (II d)/\w'.cell? ⟨w.heap.size,2,none⟩=some (.string sym)/\w'.cell? ⟨w.heap.size,3,none⟩=some (II 0)/\w'.cell? ⟨w.heap.size,4,none⟩=some (II b)/\w'.cell? ⟨w.heap.size,5,none⟩=some (II af)/\w'.cell? ⟨w.heap.size,6,none⟩=some (II az)/\w'.cell? ⟨c,0,none⟩=some (PP (B.h 1 0))/\w'.cell? ⟨B.h 1 0,5,none⟩=some (II (om (B.h 1 0)).af)) (go_keep)
     (first | (go_at_call 155;refine (qH ⟨id,d,sym,0,b,af,az⟩ _ _).mono ?_;rintro e w2 ⟨rfl,a⟩;rw[k];have y:=a.cell (p:=⟨w.heap.size,0,none⟩) ((au.new w _ _).cell 0) idd;have z:=a.cell (p:=⟨w.heap.size,1,none⟩) ((au.new w _ _).cell 1) idd;have A:=a.cell (p:=⟨w.heap.size,2,none⟩) ((au.new w _ _).cell 2) idd;have C:=a.cell (p:=⟨w.heap.size,3,none⟩) ((au.new w _ _).cell 3) idd;have D:=a.cell (p:=⟨w.heap.size,4,none⟩) ((au.new w _ _).cell 4) idd;have E:=a.cell (p:=⟨w.heap.size,5,none⟩) ((au.new w _ _).cell 5) idd;have F:=a.cell (p:=⟨w.heap.size,6,none⟩) ((au.new w _ _).cell 6) idd;have G:=a.cell (p:=⟨c,0,none⟩) (((l.alloc _).cell 0).trans t) idd;have H:CC w2 (B.h 1 0) 5 (II (om (B.h 1 0)).af):=a.cell (p:=⟨B.h 1 0,5,none⟩) ((r.alloc _).cell 5) idd))
    go_wp2;go_ret;exact⟨by rw[f.out];rfl,aj.trans (by repeat (first | exact aj.refl _ _ | refine aj.drewN ?_ _ | refine aj.drew ?_ | refine aj.alloc ?_ _)) a⟩
  ·have f:Hid (dA B om ⟨id,d,sym,1-(s:Int),b,af,az⟩ s=some (B.h s 0)):=by show _=_;unfold dA;rw[if_neg j,if_pos hg]
   clear j;have:s=0\/s=1:=by omega
   rcases this with rfl | rfl
   ·have k:iC b 1 af (om (B.h 0 0)).af=true:=hg;clear hg;have q:CC w g 1 (.slice (some ⟨c,0,none⟩) (B.n 0) (B.cap 0)):=(i.ay.cell 1).trans (by rw[<-u];rfl);go_enter Tryz.func123,Tryz.ntmps123;go_wp2;go_quiet ((go_at_call 154;exact Calls.quiet_of_same (mV _ _ (by omega) (by omega))));go_wp2;go_region_held3 (fun w'=>w'.cell? ⟨w.heap.size,0,none⟩=some (II id)/\w'.cell? ⟨w.heap.size,1,none⟩=some (II d)/\w'.cell? ⟨w.heap.size,2,none⟩=some (.string sym)/\w'.cell? ⟨w.heap.size,3,none⟩=some (II 1)/\w'.cell? ⟨w.heap.size,4,none⟩=some (II b)/\w'.cell? ⟨w.heap.size,5,none⟩=some (II af)/\w'.cell? ⟨w.heap.size,6,none⟩=some (II az)/\w'.cell? ⟨c,0,none⟩=some (PP (B.h 0 0))/\w'.cell? ⟨B.h 0 0,5,none⟩=some (II (om (B.h 0 0)).af)) (go_keep)
     (first | (go_at_call 155;refine (qH ⟨id,d,sym,1,b,af,az⟩ _ _).mono ?_;rintro e w2 ⟨rfl,a⟩;rw[k];have y:=a.cell (p:=⟨w.heap.size,0,none⟩) ((au.new w _ _).cell 0) idd;have z:=a.cell (p:=⟨w.heap.size,1,none⟩) ((au.new w _ _).cell 1) idd;have A:=a.cell (p:=⟨w.heap.size,2,none⟩) ((au.new w _ _).cell 2) idd;have C:=a.cell (p:=⟨w.heap.size,3,none⟩) ((au.new w _ _).cell 3) idd;have D:=a.cell (p:=⟨w.heap.size,4,none⟩) ((au.new w _ _).cell 4) idd;have E:=a.cell (p:=⟨w.heap.size,5,none⟩) ((au.new w _ _).cell 5) idd;have F:=a.cell (p:=⟨w.heap.size,6,none⟩) ((au.new w _ _).cell 6) idd;have G:=a.cell (p:=⟨c,0,none⟩) (((l.alloc _).cell 0).trans t) idd;have H:CC w2 (B.h 0 0) 5 (II (om (B.h 0 0)).af):=a.cell (p:=⟨B.h 0 0,5,none⟩) ((r.alloc _).cell 5) idd))
    go_wp2;go_ret;exact⟨by rw[f.out];rfl,aj.trans (by repeat (first | exact aj.refl _ _ | refine aj.drewN ?_ _ | refine aj.drew ?_ | refine aj.alloc ?_ _)) a⟩
   ·have k:iC b 0 af (om (B.h 1 0)).af=true:=hg;clear hg;have q:CC w g 2 (.slice (some ⟨c,0,none⟩) (B.n 1) (B.cap 1)):=(i.ay.cell 2).trans (by rw[<-u];rfl);go_enter Tryz.func123,Tryz.ntmps123;go_wp2;go_quiet ((go_at_call 154;exact Calls.quiet_of_same (mV _ _ (by omega) (by omega))));go_wp2;go_region_held3 (fun w'=>w'.cell? ⟨w.heap.size,0,none⟩=some (II id)/\w'.cell? ⟨w.heap.size,1,none⟩=some (II d)/\w'.cell? ⟨w.heap.size,2,none⟩=some (.string sym)/\w'.cell? ⟨w.heap.size,3,none⟩=some (II 0)/\w'.cell? ⟨w.heap.size,4,none⟩=some (II b)/\w'.cell? ⟨w.heap.size,5,none⟩=some (II af)/\w'.cell? ⟨w.heap.size,6,none⟩=some (II az)/\w'.cell? ⟨c,0,none⟩=some (PP (B.h 1 0))/\w'.cell? ⟨B.h 1 0,5,none⟩=some (II (om (B.h 1 0)).af)) (go_keep)
     (first | (go_at_call 155;refine (qH ⟨id,d,sym,0,b,af,az⟩ _ _).mono ?_;rintro e w2 ⟨rfl,a⟩;rw[k];have y:=a.cell (p:=⟨w.heap.size,0,none⟩) ((au.new w _ _).cell 0) idd;have z:=a.cell (p:=⟨w.heap.size,1,none⟩) ((au.new w _ _).cell 1) idd;have A:=a.cell (p:=⟨w.heap.size,2,none⟩) ((au.new w _ _).cell 2) idd;have C:=a.cell (p:=⟨w.heap.size,3,none⟩) ((au.new w _ _).cell 3) idd;have D:=a.cell (p:=⟨w.heap.size,4,none⟩) ((au.new w _ _).cell 4) idd;have E:=a.cell (p:=⟨w.heap.size,5,none⟩) ((au.new w _ _).cell 5) idd;have F:=a.cell (p:=⟨w.heap.size,6,none⟩) ((au.new w _ _).cell 6) idd;have G:=a.cell (p:=⟨c,0,none⟩) (((l.alloc _).cell 0).trans t) idd;have H:CC w2 (B.h 1 0) 5 (II (om (B.h 1 0)).af):=a.cell (p:=⟨B.h 1 0,5,none⟩) ((r.alloc _).cell 5) idd))
    go_wp2;go_ret;exact⟨by rw[f.out];rfl,aj.trans (by repeat (first | exact aj.refl _ _ | refine aj.drewN ?_ _ | refine aj.drew ?_ | refine aj.alloc ?_ _)) a⟩
def aK{α:Type}(f:Nat->α)(s:Nat)(v:α):Nat->α:=fun t=>if t=s then v else f t
theorem ah{α:Type}(a:Nat->α)(s:Nat)(v:α):aK a s v s=v:=by simp[aK]
theorem ag{α:Type}(a:Nat->α){s t:Nat}(v:α)(h:t≠s):aK a s v t=a t:=by simp[aK,h]
def dh(b:Nat):Value:=PP b
def qO(o:Ord):Array Value:=#[II o.id,II o.aG,.string o.sym,II o.side,II o.kind,II o.af,II o.az,II o.entered,II o.aH,II o.filled,II o.aX,II o.exp]
theorem au.qm(w:World)(o:Obj)(c:Array Value)(t:TypeId):au ((w.alloc o).alloc (.cells c t)) (w.heap.size+1) c t:=by
 have h:=au.new (w.alloc o) c t;have e:(w.alloc o).heap.size=w.heap.size+1:=by simp
 rw[e]at h;exact h
structure xE(w:World)(H b:Nat)(o:Ord):Prop where
 box:au w H #[PP b] 114
 fV:au w (H+1) (qO o) 54
theorem xE.aC{w w':World}{H b:Nat}{o:Ord}(h:xE w H b o){S:Nat->Prop}(k:aj S w w')(a:¬S H)(c:¬S (H+1)):xE w' H b o:=⟨k.ay h.box a,k.ay h.fV c⟩
theorem oJ(b:Nat)(o:Ord)(c:Int)(w:World)(a:bV w b o c) :
 CT 119 #[PP b] w fun e w'=>e=.returned (.func (.func 151) #[] #[PP (w.heap.size+1),PP w.heap.size])/\xE w' w.heap.size b o/\aj aA w w':=by
 obtain⟨c0,c1,g,i,j,c5,k,c7,c8,c9,d,f⟩:=a.c12;have lo:=a.lt;have l:b≠w.heap.size:=by omega
 go_enter Tryz.func119,Tryz.ntmps119;go_wp2;go_ret;refine⟨rfl,⟨(au.new w _ _).alloc _,au.qm w _ _ _⟩,((aj.refl aA w).alloc _).alloc _⟩
theorem Qr(b:Nat)(o:Ord)(d q:Int)(w:World)(c:bV w b o d) :
 CT 177 #[PP b,II q] w fun e w'=>e=.returned (.func (.func 151) #[] #[PP (w.heap.size+1),PP w.heap.size])/\xE w' w.heap.size b o/\bV w' b { o with aH:=wrap64 (o.aH-q),filled:=wrap64 (o.filled+q) } d/\aj (fun x=>x=b) w w':=by
 have j:=ai (oJ b o d w c);have lo:=c.lt;go_enter Tryz.func177,Tryz.ntmps177;go_wp2_with fail;refine (ae j).mono ?_;rintro e f ⟨rfl,k,g⟩;have a:=g.ay c idd;have n:CC f b 8 (II o.aH):=au.cell a 8;have r:CC f b 9 (II o.filled):=au.cell a 9;have l:=au.frozen a 8;have m:=au.frozen a 9;go_wp2;go_ret;have i:=((aj.refl (fun x=>x=b) f).setCell (p:=⟨b,8,none⟩) (.inl rfl) (II (wrap64 (o.aH-q)))).setCell (p:=⟨b,9,none⟩) (.inl rfl) (II (wrap64 (o.filled+q)));exact⟨rfl,k.aC i (by omega) (by omega),(a.set 8 _).set 9 _,g.aP.trans i⟩
theorem zQ(b:Nat)(o:Ord)(d:Int)(w:World)(c:bV w b o d) :
 CT 67 #[PP b] w fun e w'=>e=.returned (.func (.func 151) #[] #[PP (w.heap.size+1),PP w.heap.size])/\xE w' w.heap.size b o/\bV w' b { o with aH:=0,aX:=wrap64 (o.aX+o.aH) } d/\aj (fun x=>x=b) w w':=by
 have j:=ai (oJ b o d w c);have lo:=c.lt;go_enter Tryz.func67,Tryz.ntmps67;go_wp2_with fail;refine (ae j).mono ?_;rintro e f ⟨rfl,k,g⟩;have a:=g.ay c idd;have q:CC f b 8 (II o.aH):=au.cell a 8;have n:CC f b 10 (II o.aX):=au.cell a 10;have m:=au.frozen a 8;have l:=au.frozen a 10;go_wp2;go_region;go_wp2;go_ret;have i:=(((aj.refl (fun x=>x=b) f).setCell (p:=⟨b,10,none⟩) (.inl rfl) (II (wrap64 (o.aX+o.aH)))).setCell (p:=⟨b,8,none⟩) (.inl rfl) (II 0)).drew;refine⟨rfl,k.aC i (by omega) (by omega),?_,g.aP.trans i⟩;have:=(a.set 10 (II (wrap64 (o.aX+o.aH)))).set 8 (II 0);exact this
def dS(kind:Int):Bool:=kind == 0 || kind == 1 || kind == 4
theorem qN(b:Nat)(o:Ord)(k:Int)(w:World)(j:bV w b o k) :
 CT 121 #[PP b] w fun e w'=>e=.returned (.bool (dS o.kind))/\w'=w:=by
 have l:CC w b 4 (II o.kind):=j.cell 4;by_cases h0:o.kind=0
 ·have f:(o.kind == 0)=true:=by simp[h0]
  have a:Hid (dS o.kind=true):=by show _=_;simp[dS,h0]
  clear h0;go_enter Tryz.func121,Tryz.ntmps121;go_wp2;go_ret;exact⟨by rw[a.out];rfl,rfl⟩
 ·have f:(o.kind == 0)=false:=by simp[h0]
  by_cases c:o.kind=1
  ·have g:(o.kind == 1)=true:=by simp[c]
   have a:Hid (dS o.kind=true):=by show _=_;simp[dS,c]
   clear h0 c;go_enter Tryz.func121,Tryz.ntmps121;go_wp2;go_ret;exact⟨by rw[a.out];rfl,rfl⟩
  ·have g:(o.kind == 1)=false:=by simp[c]
   by_cases d:o.kind=4
   ·have i:(o.kind == 4)=true:=by simp[d]
    have a:Hid (dS o.kind=true):=by show _=_;simp[dS,d]
    clear h0 c d;go_enter Tryz.func121,Tryz.ntmps121;go_wp2;go_ret;exact⟨by rw[a.out];rfl,rfl⟩
   ·have i:(o.kind == 4)=false:=by simp[d]
    have a:Hid (dS o.kind=false):=by show _=_;simp[dS,h0,c,d]
    clear h0 c d;go_enter Tryz.func121,Tryz.ntmps121;go_wp2;go_ret;exact⟨by rw[a.out];rfl,rfl⟩
def Bk.leave(B:Bk)(om:Nat->Ord)(s i:Nat):Bk:={ B with n:=aK B.n s (B.n s-1),h:=aK B.h s (eG (fE om) (B.h s) (B.n s-1) i) }
theorem Bk.H7(B:Bk)(om:Nat->Ord)(s i:Nat)(hs:s<2):(B.leave om s i).cells=B.cells.setIfInBounds (1+s) (.slice (B.sl s) (B.n s-1) (B.cap s)):=by
 have:s=0\/s=1:=by omega
 rcases this with rfl | rfl <;> rfl
def dn(B:Bk)(s:Nat):Nat->Prop:=fun b=>ig (B.sl s)=some b\/∃k,k<B.n s/\b=B.h s k
theorem bM.FZ{w:World}{i:Nat}{B:Bk}{om:Nat->Ord}(a:bM w i B om){s t:Nat}(hs:s<2)(n:t<2)(m:s≠t){b:Nat}(h:dn B s b):¬dn B t b:=by
 have g:∀b,dn B 0 b->¬dn B 1 b:=by
  rintro b (h | ⟨k,f,rfl⟩) (c | ⟨j,d,e⟩)
  ·exact a.apart b h c
  ·subst e;exact (a.side 0 (by omega)).ne ((a.side 1 (by omega)).bg d) (by decide) h
  ·exact (a.side 1 (by omega)).ne ((a.side 0 (by omega)).bg f) (by decide) c
  ·exact a.vI k j f d e
 have l:(s=0/\t=1)\/(s=1/\t=0):=by omega
 rcases l with⟨rfl,rfl⟩ | ⟨rfl,rfl⟩
 ·exact g b h
 ·exact fun c=>g b c h
theorem bM.L8{w:World}{b:Nat}{B:Bk}{om:Nat->Ord}(a:bM w b B om){s:Nat}(hs:s<2):¬dn B s b:=by
 rintro (h | ⟨k,c,e⟩)
 ·exact (a.side s hs).ne a.ay (by decide) h
 ·subst e;exact au.ne a.ay ((a.side s hs).bg c) (by decide) rfl
theorem yC(c:Nat)(B:Bk)(om:Nat->Ord)(s i:Nat)(w:World)(a:bM w c B om)(hs:s<2)(z:i<B.n s)(M:(om (B.h s i)).side=(s:Int)) :
 CT 116 #[PP c,PP (B.h s i)] w fun e w'=>e=.returned (.tuple #[]) /\
  bM w' c (B.leave om s i) om/\(∃u,bV w' (B.h s i) (om (B.h s i)) u)/\aj (fun b=>b=c\/dn B s b) w w':=by
 have l:=a.side s hs;rcases l with⟨_,h0,_⟩ | ⟨d,m,l⟩
 ·omega
 obtain⟨n,g⟩:∃n,B.n s=n+1:=⟨B.n s-1,by omega⟩;rw[g]at l z;have A:=l.ord i z;have Q:CC w (B.h s i) 3 (II (s:Int)):=(A.cell 3).trans (by rw[<-M];rfl);have JK:CC w (B.h s i) 13 (II (i:Int)):=A.cell 13;have N:B.cells[1+s]?=some (.slice (some ⟨d,0,none⟩) (n+1) (B.cap s)):=by rw[B.vH hs,m,g]
 have C:=fun q=>Le c (1+s) d n (B.cap s) i B.cells (B.h s) om (w.drewN q) (a.ay.drewN q) N (l.aC ((aj.refl aA w).drewN q) (fun _ _ x=>x)) (by omega)
 have fin:∀(q:Nat) (w':World),(au w' c (B.cells.setIfInBounds (1+s) (.slice (some ⟨d,0,none⟩) n (B.cap s))) 158/\kR w' d (B.cap s) n (eG (fE om) (B.h s) n i) om/\bV w' (B.h s i) (om (B.h s i)) n/\aj (fun b=>b=c\/Sd d (n+1) (B.h s) b) (w.drewN q) w') ->
  bM w' c (B.leave om s i) om/\(∃u,bV w' (B.h s i) (om (B.h s i)) u)/\aj (fun b=>b=c\/dn B s b) w w':=by
  rintro q w' ⟨H,I,K,L⟩;have v:aj (fun b=>b=c\/dn B s b) w w':=aj.trans ((aj.refl _ w).drewN q) (L.mono (fun b a=>by
   rcases a with a | a
   ·exact .inl a
   ·refine .inr ?_;rcases a with rfl | ⟨k,f,rfl⟩
    ·exact .inl (PT m)
    ·exact .inr ⟨k,by omega,rfl⟩))
  refine⟨⟨?_,?_,a.apart,?_⟩,⟨n,K⟩,v⟩
  ·rw[B.H7 om s i hs,g,m];exact H
  ·intro t p;by_cases e:t=s
   ·subst e;refine .inr ⟨d,m,?_⟩;show kR w' d (B.cap t) (aK B.n t (B.n t-1) t) (aK B.h t _ t) om;rw[ah,ah,g];exact I
   ·show jk w' (B.sl t) (aK B.n s (B.n s-1) t) (B.cap t) (aK B.h s _ t) om;rw[ag _ _ e,ag _ _ e];refine (a.side t p).aC v (fun b y r=>?_);rcases r with rfl | r
    ·exact a.L8 p y
    ·exact a.FZ hs p (fun h=>e h.symm) r y
  ·have D:∀k,k<n->Mem (n+1) (B.h s) (eG (fE om) (B.h s) n i k):=fun k f=>(qf (lt:=fE om) (B.h s) i (by omega) _).1 ⟨k,by omega,rfl⟩
   have J:s=0\/s=1:=by omega
   intro k j f o;rcases J with rfl | rfl
   ·simp only[Bk.leave,ah,ag _ _ (show (1:Nat)≠0 by omega),g,Nat.add_sub_cancel]at f o ⊢;obtain⟨k',S,e⟩:=D k f;rw[e];exact a.vI k' j (by omega) o
   ·simp only[Bk.leave,ah,ag _ _ (show (0:Nat)≠1 by omega),g,Nat.add_sub_cancel]at f o ⊢;obtain⟨P,R,e⟩:=D j o;rw[e];exact a.vI k P f (by omega)
 obtain⟨E,F⟩:=aZ fin C;clear fin C;have G:s=0\/s=1:=by omega
 rcases G with rfl | rfl
 all_goals
  go_enter Tryz.func116,Tryz.ntmps116;go_wp2;go_region_with (first | (go_at_call 149;refine (ae F _).mono ?_;rintro e T ⟨rfl,O⟩))
  all_goals
   go_wp2;go_end0;exact⟨rfl,ae E _ _ O⟩
structure wB(w:World)(H bb b:Nat):Prop where
 aW:au w H #[PP bb] 111
 ord:au w (H+1) #[PP b] 114
theorem wB.aC{w w':World}{H a b:Nat}(h:wB w H a b){S:Nat->Prop}(k:aj S w w')(c:¬S H)(d:¬S (H+1)):wB w' H a b:=⟨k.ay h.aW c,k.ay h.ord d⟩
theorem bM.DL{w:World}{c:Nat}{B:Bk}{om:Nat->Ord}(a:bM w c B om){s:Nat}(hs:s<2){b:Nat}(h:dn B s b):b<w.heap.size:=by
 rcases h with h | ⟨k,d,rfl⟩
 ·exact (a.side s hs).lt h
 ·exact ((a.side s hs).bg d).lt
theorem Oo(a:Nat)(B:Bk)(om:Nat->Ord)(s i:Nat)(w:World)(f:bM w a B om)(hs:s<2)(r:i<B.n s)(t:(om (B.h s i)).side=(s:Int)) :
 CT 66 #[PP a,PP (B.h s i)] w fun e w'=>e=.returned (.func (.func 117) #[] #[PP w.heap.size,PP (w.heap.size+1)])/\wB w' w.heap.size a (B.h s i) /\
  bM w' a (B.leave om s i) om/\(∃u,bV w' (B.h s i) (om (B.h s i)) u)/\aj (fun b=>b=a\/dn B s b) w w':=by
 obtain⟨c,d⟩:=gy ((w.alloc (.cells #[PP a] 111)).alloc (.cells #[PP (B.h s i)] 114));have k:aj aA w c:=by rw[d];exact ((aj.refl aA w).alloc _).alloc _
 have g:wB c w.heap.size a (B.h s i):=by rw[d];exact⟨(au.new w _ _).alloc _,au.qm w _ _ _⟩
 have q:=f.aC k (fun _ _ x=>x);obtain⟨m,o⟩:=aZ (yC a B om s i c q hs r t) d;have y:CC c w.heap.size 0 (PP a):=g.aW.cell 0;have z:CC c (w.heap.size+1) 0 (PP (B.h s i)):=g.ord.cell 0;have lb:=f.ay.lt;have out:∀b,w.heap.size<=b->¬(b=a\/dn B s b):=by
  rintro b h (e | e)
  ·omega
  ·have:=f.DL hs e;omega
 have j:=ai out;clear d out;go_enter Tryz.func66,Tryz.ntmps66;go_wp2_with fail;rw[<-ae o];refine (ae m).mono ?_;rintro e w2 ⟨rfl,p,v,l⟩;go_wp2;go_ret;exact⟨rfl,g.aC l (ae j _ (Nat.le_refl _)) (ae j _ (by omega)),p,v,k.aP.trans l⟩
theorem kR.om{w:World}{a cap n:Nat}{h:Nat->Nat}{om dG:Nat->Ord}(hs:kR w a cap n h om)(c:∀k,k<n->dG (h k)=om (h k)):kR w a cap n h dG :=
 ⟨hs.sD,fun i b=>by rw[c i b];exact hs.ord i b,hs.le,hs.small,hs.NR⟩
theorem jk.om{w:World}{s:Option Addr}{cap n:Nat}{h:Nat->Nat}{om dG:Nat->Ord}(hs:jk w s n cap h om)(b:∀k,k<n->dG (h k)=om (h k)):jk w s n cap h dG:=by
 rcases hs with hs | ⟨a,e,hs⟩
 ·exact .inl hs
 ·exact .inr ⟨a,e,hs.om b⟩
theorem jk.aK{w w':World}{s:Option Addr}{cap n:Nat}{h:Nat->Nat}{om:Nat->Ord}(hs:jk w s n cap h om){b:Nat}{o o':Ord}{f:Int}(d:bV w b o f)(k:aj (fun x=>x=b) w w')(m:bV w' b o' f):jk w' s n cap h (aK om b o'):=by
 rcases hs with hs | ⟨g,rfl,hs⟩
 ·exact .inl hs
 ·refine .inr ⟨g,rfl,?_⟩;obtain⟨cs,c,j,p⟩:=hs.sD;refine⟨⟨cs,k.ay c (fun e=>au.ne d c (by decide) e.symm),j,p⟩,fun i l=>?_,hs.le,hs.small,hs.NR⟩;have a:=hs.ord i l;by_cases e:h i=b
  ·rw[e]at a ⊢;rw[ah];have:=(Ord.CU (au.uniq d a)).1;rw[<-this];exact m
  ·rw[ag _ _ e];exact k.ay a e
theorem bM.aK{w w':World}{c:Nat}{B:Bk}{om:Nat->Ord}(a:bM w c B om){b:Nat}{o o':Ord}{f:Int}(d:bV w b o f)(k:aj (fun x=>x=b) w w')(g:bV w' b o' f):bM w' c B (aK om b o') :=
 ⟨k.ay a.ay (fun e=>au.ne d a.ay (by decide) e.symm),fun s hs=>(a.side s hs).aK d k g,a.apart,a.vI⟩
theorem ET{om:Nat->Ord}{b:Nat}{o':Ord}(a:o'.side=(om b).side)(c:o'.af=(om b).af)(d:o'.place=(om b).place):fE (aK om b o')=fE om:=by
 have:∀x,(aK om b o' x).side=(om x).side/\(aK om b o' x).af=(om x).af/\(aK om b o' x).place=(om x).place:=by
  intro x;by_cases e:x=b
  ·subst e;rw[ah];exact⟨a,c,d⟩
  ·rw[ag _ _ e];exact⟨rfl,rfl,rfl⟩
 funext x y;unfold fE jm kP;rw[(this x).1,(this x).2.1,(this x).2.2,(this y).2.1,(this y).2.2]
def Bk.push(B:Bk)(om:Nat->Ord)(s ob g cap':Nat):Bk :=
 { B with sl:=aK B.sl s (some ⟨g,0,none⟩),n:=aK B.n s (B.n s+1),cap:=aK B.cap s cap',h:=aK B.h s (uQ (fE om) (fun k=>if k=B.n s then ob else B.h s k) (B.n s)) }
theorem Bk.KX(B:Bk)(om:Nat->Ord)(s a g cap':Nat)(hs:s<2):(B.push om s a g cap').cells=B.cells.setIfInBounds (1+s) (.slice (some ⟨g,0,none⟩) (B.n s+1) cap'):=by
 have:s=0\/s=1:=by omega
 rcases this with rfl | rfl <;> rfl
def Bk.rest(B:Bk)(om:Nat->Ord)(s ob g cap':Nat):Bk :=
 { B with sl:=aK B.sl s (some ⟨g,0,none⟩),n:=aK B.n s (B.n s+1),cap:=aK B.cap s cap',h:=aK B.h s (uQ (fE om) (fun k=>if k=B.n s then ob else B.h s k) (B.n s)),places:=wrap64 (B.places+1) }
theorem CQ(f c s:Nat)(B:Bk)(om:Nat->Ord)(D:Int)(w:World)(d:bM w f B om)(v:bV w c (om c) D)(hs:s<2)(Q:(om c).side=(s:Int))(u:∀t,t<2->∀k,k<B.n t->B.h t k≠c)(P:B.n s<1000) :
 CT 118 #[PP f,PP c] w fun e w'=>e=.returned (.tuple #[]) /\
  ∃g cap',bM w' f (B.push om s c g cap') om/\aj (fun b=>b=f\/b=c\/dn B s b) w w'/\(ig (B.sl s)=some g\/w.heap.size<=g):=by
 have T:c≠f:=au.ne v d.ay (by decide);have C:=fun q=>Oi f (1+s) c (B.n s) (B.cap s) (B.sl s) _ (B.h s) om D (w.drewN q) (d.ay.drewN q) (B.vH hs) ((d.side s hs).aC ((aj.refl aA w).drewN q) (fun _ _ x=>x)) (v.drewN q) (u s hs) P
 have fin:∀(q:Nat) (w':World),(∃g cap',au w' f (B.cells.setIfInBounds (1+s) (.slice (some ⟨g,0,none⟩) (B.n s+1) cap')) 158/\kR w' g cap' (B.n s+1) (uQ (fE om) (fun k=>if k=B.n s then c else B.h s k) (B.n s)) om /\
  aj (fun b=>b=f\/b=c\/ig (B.sl s)=some b\/∃k,k<B.n s/\b=B.h s k) (w.drewN q) w'/\(ig (B.sl s)=some g\/(w.drewN q).heap.size<=g)) ->
  ∃g cap',bM w' f (B.push om s c g cap') om/\aj (fun b=>b=f\/b=c\/dn B s b) w w'/\(ig (B.sl s)=some g\/w.heap.size<=g):=by
  rintro q w' ⟨g,cap',J,K,L,M⟩;have z:ig (B.sl s)=some g\/w.heap.size<=g:=M;have A:aj (fun b=>b=f\/b=c\/dn B s b) w w':=aj.trans ((aj.refl _ w).drewN q) (L.mono (fun b d=>d));refine⟨g,cap',⟨?_,?_,?_,?_⟩,A,z⟩
  ·rw[B.KX om s c g cap' hs];exact J
  ·intro t o;by_cases e:t=s
   ·subst e;refine .inr ⟨g,by simp only[Bk.push,ah],?_⟩;simp only[Bk.push,ah];exact K
   ·simp only[Bk.push,ag _ _ e];refine (d.side t o).aC A (fun b p y=>?_);rcases y with rfl | rfl | y
    ·exact d.L8 o p
    ·rcases p with p | ⟨k,i,I⟩
     ·exact (d.side t o).ne v (by decide) p
     ·exact u t o k i I.symm
    ·exact d.FZ hs o (fun h=>e h.symm) y p
  ·have E:∀t,t<2->t≠s->ig (B.sl t)≠some g:=by
    intro t o e;rcases z with h | h
    ·have m:(t=0/\s=1)\/(t=1/\s=0):=by omega
     rcases m with⟨rfl,rfl⟩ | ⟨rfl,rfl⟩
     ·exact fun l=>d.apart g l h
     ·exact d.apart g h
    ·intro l;have:=(d.side t o).lt l;omega
   have m:s=0\/s=1:=by omega
   intro a;rcases m with rfl | rfl
   ·simp only[Bk.push,ah,ag _ _ (show (1:Nat)≠0 by omega)];intro h l;simp[ig]at h;subst h;exact E 1 (by omega) (by omega) l
   ·simp only[Bk.push,ah,ag _ _ (show (0:Nat)≠1 by omega)];intro h l;simp[ig]at l;subst l;exact E 0 (by omega) (by omega) h
  ·have F:∀k,k<B.n s+1->Mem (B.n s) (B.h s) (uQ (fE om) (fun k=>if k=B.n s then c else B.h s k) (B.n s) k)\/uQ (fE om) (fun k=>if k=B.n s then c else B.h s k) (B.n s) k=c:=fun k i=>(jf (lt:=fE om) (B.h s) c _).1 ⟨k,i,rfl⟩
   have m:s=0\/s=1:=by omega
   intro k j i r;rcases m with rfl | rfl
   ·simp only[Bk.push,ah,ag _ _ (show (1:Nat)≠0 by omega)]at i r ⊢;rcases F k i with⟨k',O,e⟩ | e
    ·rw[e];exact d.vI k' j O r
    ·rw[e];exact fun h=>u 1 (by omega) j r h.symm
   ·simp only[Bk.push,ah,ag _ _ (show (0:Nat)≠1 by omega)]at i r ⊢;rcases F j r with⟨S,N,e⟩ | e
    ·rw[e];exact d.vI k S i N
    ·rw[e];exact u 0 (by omega) k i
 obtain⟨G,H⟩:=aZ fin C;have U:CC w c 3 (II (s:Int)):=(v.cell 3).trans (by rw[<-Q];rfl);clear fin C;have m:s=0\/s=1:=by omega
 rcases m with rfl | rfl
 all_goals
  go_enter Tryz.func118,Tryz.ntmps118;go_wp2;go_region_with (first | (go_at_call 150;refine (ae H _).mono ?_;rintro e w2 ⟨rfl,R⟩))
  all_goals
   go_wp2;go_end0;exact⟨rfl,ae G _ _ R⟩
structure wE(w:World)(H bb b:Nat)(p:Int):Prop where
 vS:wB w H bb b
 place:au w (H+2) #[II p] 3
theorem wE.aC{w w':World}{H a b:Nat}{p:Int}(h:wE w H a b p){S:Nat->Prop}(k:aj S w w')(c:¬S H)(d:¬S (H+1))(e:¬S (H+2)):wE w' H a b p:=⟨h.vS.aC k c d,k.ay h.place e⟩
theorem au.MR(w:World)(o a:Obj)(c:Array Value)(t:TypeId):au (((w.alloc o).alloc a).alloc (.cells c t)) (w.heap.size+2) c t:=by
 have h:=au.new ((w.alloc o).alloc a) c t;have e:((w.alloc o).alloc a).heap.size=w.heap.size+2:=by simp
 rw[e]at h;exact h
structure Tr where
 num:Int
 sym:ByteArray
 af:Int
 az:Int
 lF:Int
 dZ:Int
 day:Int
def Tr.cells(t:Tr):List Value:=[II t.num,.string t.sym,II t.af,II t.az,II t.lF,II t.dZ,II t.day]
def Tr.val(t:Tr):Value:=.agg #[II t.num,.string t.sym,II t.af,II t.az,II t.lF,II t.dZ,II t.day]
structure Tg where
 t:Tr
 holds:Bool
def Tg.cells(g:Tg):Array Value:=#[II g.t.num,.string g.t.sym,II g.t.af,II g.t.az,II g.t.lF,II g.t.dZ,II g.t.day,.bool g.holds]
structure Rc where
 num:Int
 kind:Int
 t:Tr
def Rc.cells(r:Rc):List Value:=[II r.num,II r.kind,II r.t.num,.string r.t.sym,II r.t.af,II r.t.az,II r.t.lF,II r.t.dZ,II r.t.day]
def gm(rs:List Rc):List Value:=rs.flatMap Rc.cells
theorem rD(a:List Rc)(r:Rc):gm (a++[r])=gm a++r.cells:=by simp[gm,List.flatMap_append]
theorem ED(a:List Rc):(gm a).length=a.length * 9:=by
 induction a with
 | nil=>rfl
 | cons r a ih=>simp only[gm,List.flatMap_cons,List.length_append,List.length_cons]at ih ⊢;rw[ih];simp only[Rc.cells,List.length_cons,List.length_nil];omega
inductive dU where
 | fV (b:Nat) (o:Ord)
 | left (b:Nat)
 | eQ (b:Nat) (p:Int)
 | entered (id:Int)
 | bU (s:ByteArray)
 | jh (t:Tr)
 | jV (tb:Nat)
 | iV (tb:Nat) (p:Int)
 | closed
structure Lg where
 tr:List Tg
 tp:List Rc
 day:Int
 na:Nat
 nt:List dU
 ud:Nat
structure Lm where
 tv:Value
 pv:Value
 tb:List Nat
 av:Value
 ac:List (Value × List Value)
 jv:Value
 jn:List Value
def gK(av:Value)(ac:List (Value × List Value))(b:Nat):Prop:=av.ownBlock=some b\/∃a,a∈ac/\a.1.ownBlock=some b
def Lm.F(m:Lm)(b:Nat):Prop:=m.tv.ownBlock=some b\/(m.pv.ownBlock=some b\/m.jv.ownBlock=some b)\/b∈m.tb\/gK m.av m.ac b
def rZ(bm bo:Nat)(m:Lm)(day:Int):Array Value:=#[.map (some bm),.map (some bo),m.tv,m.pv,II day,m.av,m.jv]
theorem aF{w:World}{base e size n:Nat}{v:Value}{d:List Value}(h:w.ownsRow base e size v n d){b:Nat}(a:v.ownBlock=some b):∃cs,au w b cs e:=by
 rcases h.2 with⟨rfl,_⟩ | ⟨g,cap,cs,rfl,_,c,_⟩
 ·simp[Value.ownBlock]at a
 ·simp only[Value.ownBlock,Option.some.injEq]at a;subst a;exact⟨cs,c⟩
structure F7(w:World)(av:Value)(ac:List (Value × List Value))(na nf:Nat):Prop where
 row:w.ownsRow 0 109 1 av ac.length (ac.map Prod.fst)
 own:∀a,a∈ac->w.ownsRow 0 1 1 a.1 a.2.length a.2
 dis:(ac.filterMap (fun a=>a.1.ownBlock)).Nodup
 len:ac.length=na
 last:∀a,ac.getLast?=some a->a.2.length=nf
theorem F7.gZ{w:World}{av:Value}{ac:List (Value × List Value)}{na f:Nat}(h:F7 w av ac na f){b:Nat}(c:gK av ac b):∃cs t,au w b cs t/\(t=109\/t=1):=by
 rcases c with c | ⟨a,e,c⟩
 ·obtain⟨cs,d⟩:=aF h.row c;exact⟨cs,109,d,.inl rfl⟩
 ·obtain⟨cs,d⟩:=aF (h.own a e) c;exact⟨cs,1,d,.inr rfl⟩
theorem aB{w w':World}{base e size n:Nat}{v:Value}{a:List Value}(h:w.ownsRow base e size v n a){S:Nat->Prop}(k:aj S w w')(f:∀b,v.ownBlock=some b->¬S b):w'.ownsRow base e size v n a:=by
 refine⟨h.1,?_⟩;rcases h.2 with h | ⟨g,cap,cs,rfl,c,i,d⟩
 ·exact .inl h
 ·exact .inr ⟨g,cap,cs,rfl,c,k.ay i (f g rfl),d⟩
theorem F7.aC{w w':World}{av:Value}{ac:List (Value × List Value)}{na f:Nat}(h:F7 w av ac na f){S:Nat->Prop}(k:aj S w w')(d:∀b,gK av ac b->¬S b):F7 w' av ac na f :=
 ⟨aB h.row k (fun b c=>d b (.inl c)),fun a e=>aB (h.own a e) k (fun b c=>d b (.inr ⟨a,e,c⟩)),h.dis,h.len,h.last⟩
structure qB(w:World)(G:Lg)(m:Lm)(q:Nat):Prop where
 dJ:w.ownsRow 0 103 1 m.tv G.tr.length (m.tb.map dh)
 fQ:w.ownsRow 0 62 9 m.pv G.tp.length (gm G.tp)
 len:m.tb.length=G.tr.length
 ay:∀(i b:Nat) (g:Tg),m.tb[i]?=some b->G.tr[i]?=some g->au w b g.cells 105
 nodup:m.tb.Nodup
 act:F7 w m.av m.ac G.na G.nt.length
 lT:w.ownsRow 0 5 1 m.jv m.jn.length m.jn
 jb:m.jn.length<=300 * q
abbrev Zu(w:World)(G:Lg)(m:Lm):Prop:=qB w G m (G.ud+G.na)
structure fP(w:World)(bv bm bo:Nat)(G:Lg)(m:Lm)(q:Nat):Prop where
 cO:au w bv (rZ bm bo m G.day) 100
 aO:qB w G m q
abbrev bz(w:World)(bv bm bo:Nat)(G:Lg)(m:Lm):Prop:=fP w bv bm bo G m (G.ud+G.na)
theorem qB.gZ{w:World}{G:Lg}{m:Lm}{q:Nat}(h:qB w G m q){b:Nat}(a:m.F b):∃cs t,au w b cs t/\(t=103\/t=62\/t=105\/t=109\/t=1\/t=5):=by
 rcases a with a | (a | a) | a | a
 ·obtain⟨cs,c⟩:=aF h.dJ a;exact⟨cs,103,c,.inl rfl⟩
 ·obtain⟨cs,c⟩:=aF h.fQ a;exact⟨cs,62,c,.inr (.inl rfl)⟩
 ·obtain⟨cs,c⟩:=aF h.lT a;exact⟨cs,5,c,vk rfl⟩
 ·obtain⟨i,d,e⟩:=List.mem_iff_getElem.1 a;have f:i<G.tr.length:=by rw[<-h.len];exact d
  exact⟨_,105,h.ay i b _ (by rw[List.getElem?_eq_getElem d,e]) (List.getElem?_eq_getElem f),jL rfl⟩
 ·obtain⟨cs,t,c,g⟩:=h.act.gZ a;exact⟨cs,t,c,g.elim (fun e=>iQ e) (fun e=>qo e)⟩
theorem qB.lt{w:World}{G:Lg}{m:Lm}{q:Nat}(h:qB w G m q){b:Nat}(a:m.F b):b<w.heap.size:=by
 obtain⟨cs,t,c,_⟩:=h.gZ a;exact c.lt
theorem qB.ne{w:World}{G:Lg}{m:Lm}{q:Nat}(h:qB w G m q){b:Nat}{c:Array Value}{t:TypeId}(f:au w b c t)(g:t≠103)(i:t≠62)(j:t≠105)(k:t≠109:=by decide)(d:t≠1/\t≠5:=by decide):¬m.F b:=by
 intro l;obtain⟨cs,o,a,n⟩:=h.gZ l;unfold au at f a;rw[f]at a;simp only[Option.some.injEq,Obj.cells.injEq]at a;obtain⟨_,e,_⟩:=a;subst e;rcases n with e | e | e | e | e | e
 ·exact g e
 ·exact i e
 ·exact j e
 ·exact k e
 ·exact d.1 e
 ·exact d.2 e
theorem qB.aC{w w':World}{G:Lg}{m:Lm}{q:Nat}(h:qB w G m q){S:Nat->Prop}(k:aj S w w')(c:∀b,m.F b->¬S b):qB w' G m q :=
 ⟨aB h.dJ k (fun b a=>c b (.inl a)),aB h.fQ k (fun b a=>c b (.inr (.inl (.inl a)))),h.len,fun i b g d e=>k.ay (h.ay i b g d e) (c b (jL (List.mem_of_getElem? d))),h.nodup,h.act.aC k (fun b a=>c b (BA a)),aB h.lT k (fun b a=>c b (.inr (.inl (.inr a)))),h.jb⟩
theorem fP.aC{w w':World}{bv a c:Nat}{G:Lg}{m:Lm}{q:Nat}(h:fP w bv a c G m q){S:Nat->Prop}(k:aj S w w')(d:¬S bv)(e:∀b,m.F b->¬S b):fP w' bv a c G m q :=
 ⟨k.ay h.cO d,h.aO.aC k e⟩
theorem fP.ax{w w':World}{bv a b:Nat}{G:Lg}{m:Lm}{q:Nat}(h:fP w bv a b G m q)(k:aj aA w w'):fP w' bv a b G m q:=h.aC k idd (fun _ _ x=>x)
theorem fP.JH{w:World}{bv a b:Nat}{G:Lg}{m:Lm}{q:Nat}(h:fP w bv a b G m q):¬m.F bv:=h.aO.ne h.cO (by decide) (by decide) (by decide)
def Lg.told(G:Lg)(kind:Int)(t:Tr):Lg:={ G with tp:=G.tp++[⟨(G.tp.length:Int)+1,kind,t⟩] }
theorem XH:(Tryz.prog.info? 62).map (fun i=>(i.zero.map (fun a=>a.cells.size),i.size,i.bytes))=some (some 9,9,80):=by kernel_rfl
theorem XI:(Tryz.prog.info? 103).map (fun i=>(i.zero,i.size,i.bytes))=some (some (.pointer none),1,8):=by kernel_rfl
theorem lX:∃i a,Tryz.prog.info? 62=some i/\i.zero=some a/\i.size=9/\i.bytes=80/\a.cells.size=9:=by
 have h:=XH;cases hi:Tryz.prog.info? 62 with
 | none=>rw[hi]at h;simp at h
 | some i =>
   rw[hi]at h;simp at h;obtain⟨⟨a,d,hs⟩,b,c⟩:=h;exact⟨i,a,rfl,d,b,c,hs⟩
theorem MW(w:World)(r:Rc):∀j a,r.cells[j]?=some a->(w.alloc (.cells #[II r.num,II r.kind,II r.t.num,.string r.t.sym,II r.t.af,II r.t.az,II r.t.lF,II r.t.dZ,II r.t.day] 62)).cell? (Addr.add ⟨w.heap.size,0,none⟩ j)=some a:=by
 intro j a c;have b:=au.new w #[II r.num,II r.kind,II r.t.num,.string r.t.sym,II r.t.af,II r.t.az,II r.t.lF,II r.t.dZ,II r.t.day] 62;have e:Addr.add ⟨w.heap.size,0,none⟩ j=⟨w.heap.size,j,none⟩:=by simp[Addr.add];omega
 rw[e,b.cell,<-c];simp[Rc.cells]
theorem dC{w:World}{base e size n:Nat}{v:Value}{i:List Value}(h:w.ownsRow base e size v n i){b:Nat}(a:v.ownBlock=some b){b':Nat}{c:Array Value}{t:TypeId}(d:au w b' c t)(g:e≠t):b≠b':=by
 obtain⟨cs,f⟩:=aF h a;exact au.ne f d g
theorem fP.OY{d w2:World}{bv j l:Nat}{G:Lg}{m:Lm}(h:bz d bv j l G m){n H g cap:Nat}{r:Rc}(y:G.tp.length=n)(hown:w2.ownsRow 0 62 9 (.slice (some ⟨g,0,none⟩) (n+1) cap) (n+1) (gm G.tp++r.cells))(u:d.grownBy w2 m.pv.ownBlock)(x:m.pv.ownBlock=some g\/g=H)(hH:d.heap.size=H) :
 bz (w2.setCell ⟨bv,3,none⟩ (.slice (some ⟨g,0,none⟩) (n+1) cap)) bv j l { G with tp:=G.tp++[r] } { m with pv:=.slice (some ⟨g,0,none⟩) (n+1) cap } /\
  (∀b,Lm.F { m with pv:=.slice (some ⟨g,0,none⟩) (n+1) cap } b->m.F b\/H<=b)/\aj (fun b=>b=bv\/m.pv.ownBlock=some b) d (w2.setCell ⟨bv,3,none⟩ (.slice (some ⟨g,0,none⟩) (n+1) cap)):=by
 have o:au w2 bv (rZ j l m G.day) 100:=(u.block bv h.cO.lt (fun e=>h.JH (.inr (.inl (.inl e.symm))))).trans h.cO;have f:aj (fun b=>b=bv\/m.pv.ownBlock=some b) d (w2.setCell ⟨bv,3,none⟩ (.slice (some ⟨g,0,none⟩) (n+1) cap)) :=
  ((aj.refl _ d).grown u (fun k e=>.inl (.inr e))).setCell (p:=⟨bv,3,none⟩) (.inl (.inl rfl)) _
 have z:aj (fun b=>b=bv) w2 (w2.setCell ⟨bv,3,none⟩ (.slice (some ⟨g,0,none⟩) (n+1) cap)):=(aj.refl (fun b=>b=bv) w2).setCell (p:=⟨bv,3,none⟩) (.inl rfl) _;refine⟨⟨o.set 3 _,?_⟩,?_,f⟩
 ·refine⟨aB h.aO.dJ f ?_,?_,h.aO.len,fun i b g v s=>f.ay (h.aO.ay i b g v s) ?_,h.aO.nodup,h.aO.act.aC f ?_,aB h.aO.lT f ?_,h.aO.jb⟩
  ·rintro b a (e | e)
   ·exact dC h.aO.dJ a h.cO (by decide) e
   ·obtain⟨cs,c⟩:=aF h.aO.fQ e;exact dC h.aO.dJ a c (by decide) rfl
  ·simp only[List.length_append,List.length_cons,List.length_nil,y,rD];refine aB hown z (fun b a e=>?_);exact dC hown a o (by decide) e
  ·have q:=h.aO.ay i b g v s;rintro (e | e)
   ·exact au.ne q h.cO (by decide) e
   ·exact dC h.aO.fQ e q (by decide) rfl
  ·intro b a;obtain⟨cs,t,c,w⟩:=h.aO.act.gZ a;rintro (e | e)
   ·exact au.ne c h.cO (by rcases w with rfl | rfl <;> decide) e
   ·exact dC h.aO.fQ e c (by rcases w with rfl | rfl <;> decide) rfl
  ·rintro b a (e | e)
   ·exact dC h.aO.lT a h.cO (by decide) e
   ·obtain⟨cs,c⟩:=aF h.aO.fQ e;exact dC h.aO.lT a c (by decide) rfl
 ·rintro b (a | (a | a) | a)
  ·exact .inl (.inl a)
  ·simp only[Value.ownBlock,Option.some.injEq]at a;rcases x with e | e
   ·exact .inl (.inr (.inl (.inl (by rw[e,a]))))
   ·right;omega
  ·exact .inl (.inr (.inl (.inr a)))
  ·exact .inl (.inr (.inr a))
open Go.RowKit Go.Sort
theorem P6(a b:Nat)(c d:Ord)(n o:Int)(w:World)(f:bV w a c n)(g:bV w b d o) :
 CT 83 #[PP a,PP b] w fun e w'=>e=.returned (II (kP c d))/\∃q p,w'=grow (w.drewN q) p:=by
 have a3:=f.cell 3;have a5:=f.cell 5;have j:=f.cell 12;have l:=g.cell 5;have k:=g.cell 12;have r:=f.lt;have lb:=g.lt;simp only[Ord.cells]at a3 a5 j l k;simp at a3 a5 j l k;clear f g;obtain⟨s,t⟩:=Qc c.af d.af;by_cases hs:c.side=0
 ·have m:(c.side == 0)=true:=by simp[hs]
  have i:Hid (kP c d=RN (-(mP c.af d.af)) (mP c.place d.place)):=by show kP c d=_;simp only[kP,hs,if_true]
  clear hs;go_enter Tryz.func83,Tryz.ntmps83;go_wp2;go_quiet ((go_at_call 130;exact Calls.quiet_of_same (jl _ _ _)));go_wp2;go_region_held3 (fun w'=>w'.cell? ⟨a,12,none⟩=some (II c.place)/\w'.cell? ⟨b,12,none⟩=some (II d.place)) (go_keep)
   (first | (go_at_call 130;refine (jl _ _ _).mono ?_;rintro e w' ⟨rfl,rfl⟩) | (go_at_call 131;refine (Fa _ _ (-(mP c.af d.af)) (mP c.place d.place) _ ?_ ?_).mono ?_;(exact (au.new _ _ _).cell 0);(exact (au.new _ _ _).cell 1);rintro e w' ⟨rfl,rfl⟩))
  go_wp2;go_ret;exact⟨by rw[i.out];rfl,_,_,alloc_eq_grow _ _⟩
 ·have m:(c.side == 0)=false:=by simp[hs]
  have i:Hid (kP c d=RN (mP c.af d.af) (mP c.place d.place)):=by show kP c d=_;simp only[kP,hs,if_false]
  clear hs;go_enter Tryz.func83,Tryz.ntmps83;go_wp2;go_quiet ((go_at_call 130;exact Calls.quiet_of_same (jl _ _ _)));go_wp2;go_region_held3 (fun w'=>w'.cell? ⟨a,12,none⟩=some (II c.place)/\w'.cell? ⟨b,12,none⟩=some (II d.place)) (go_keep)
   (first | (go_at_call 130;refine (jl _ _ _).mono ?_;rintro e w' ⟨rfl,rfl⟩) | (go_at_call 131;refine (Fa _ _ (mP c.af d.af) (mP c.place d.place) _ ?_ ?_).mono ?_;(exact (au.new _ _ _).cell 0);(exact (au.new _ _ _).cell 1);rintro e w' ⟨rfl,rfl⟩))
  go_wp2;go_ret;exact⟨by rw[i.out];rfl,_,_,alloc_eq_grow _ _⟩
theorem BC(b:Nat)(a:Option Addr)(len cap:Nat)(c:Nat->Nat)(j:len<=100000)(w:World)(f:b<w.heap.size)
 (i:w.cell? ⟨b,0,none⟩=some (.slice a len cap)) (g:Ef w.heap.size w a len cap c) :
 CT 156 #[.slice none 0 0,.func (.func 129) #[] #[PP b]] w fun e d=>∃v,e=.returned v/\d.ownsRow w.heap.size 114 1 v len ((upto c len).map uP)/\(v=.slice none 0 0↔upto c len=[])/\Below w.heap.size w d :=
 callsIn_wide.1 (En Fence.wide 3 trivial trivial rfl (by omega) b a len cap c j w f i g)
theorem LV(a:Option Addr)(len cap:Nat)(w:World) :
 CT 82 #[.slice a len cap] w fun e w'=>e=.returned (.func (.func 129) #[] #[PP w.heap.size])/\w'=w.alloc (.cells #[.slice a len cap] 155) :=
 callsIn_wide.1 (O6 Fence.wide 3 trivial rfl a len cap w)
theorem GK(b:Nat)(a:Option Addr)(len cap:Nat)(c:Nat->Nat)(k:len<=100000)(w:World)(j:b<w.heap.size)
 (g:w.cell? ⟨b,0,none⟩=some (.slice a len cap)) (f:Ef w.heap.size w a len cap c) :
 CT 127 #[.func (.func 129) #[] #[PP b]] w fun e d=>∃v,e=.returned v/\d.ownsRow w.heap.size 114 1 v len ((upto c len).map uP)/\(v=.slice none 0 0↔upto c len=[])/\Below w.heap.size w d:=by
 have i:=BC b a len cap c k w j g f;clear g f;go_enter Tryz.func127,Tryz.ntmps127;go_wp2_with (go_at_call 156;refine i.mono ?_;clear i;rintro e w' ⟨v,rfl,l⟩);go_ret;exact⟨v,rfl,l⟩
theorem UT(w:World):CT 158 #[.int .u64 0] w fun e w'=>(∃n,e=.returned (II n))/\w'=w:=by
 have a:CT 188 #[.int .u64 0] w fun e w'=>(∃n,e=.returned (II n))/\w'=w:=by
  go_enter Tryz.func188,Tryz.ntmps188;go_wp2
  all_goals (go_ret;exact⟨⟨_,rfl⟩,rfl⟩)
 go_enter Tryz.func158,Tryz.ntmps158;go_wp2_with (go_at_call 188;refine a.mono ?_;rintro e w' ⟨⟨n,rfl⟩,rfl⟩)
 all_goals (go_ret;exact⟨⟨_,rfl⟩,rfl⟩)
theorem Hr(a:Value)(w:World):CT 179 #[.slice none 0 0,II 0,II 0,a] w fun e w'=>e=.returned (.tuple #[])/\w'=w:=by
 go_enter Tryz.func179,Tryz.ntmps179;go_wp2;refine wp_loop_rounds 1 ?_;rw[rounds_succ];go_wp2;go_end0;exact⟨rfl,rfl⟩
theorem aaK(b:Int)(a:Value)(w:World):CT 157 #[.slice none 0 0,II 0,II 0,II b,a] w fun e w'=>e=.returned (.tuple #[])/\w'=w:=by
 go_enter Tryz.func157,Tryz.ntmps157;go_wp2;refine wp_loop_rounds 1 ?_;rw[rounds_succ];go_wp2_with (go_at_call 179;refine (Hr _ _).mono ?_;rintro e w' ⟨rfl,rfl⟩)
 (try simp only[Exit.inBlock,Exit.then])
 refine bodyPost_ret (results_none rfl _ _ _) rfl ?_;exact⟨rfl,rfl⟩
theorem Lr(a:Value)(w:World):CT 128 #[.slice none 0 0,a] w fun e w'=>e=.returned (.tuple #[])/\w'=w:=by
 go_enter Tryz.func128,Tryz.ntmps128;go_wp2_with (first | (go_at_call 158;refine (UT _).mono ?_;rintro e w' ⟨⟨n,rfl⟩,rfl⟩) | (go_at_call 157;refine (aaK _ _ _).mono ?_;rintro e w' ⟨rfl,rfl⟩));go_end0;exact⟨rfl,rfl⟩
theorem qK(a b:Ord):jm a b=true↔((if a.side=0 then b.af<a.af else a.af<b.af)\/(a.af=b.af/\a.place<b.place)):=by
 unfold jm kP RN mP;simp only[decide_eq_true_eq];by_cases hs:a.side=0 <;> simp only[hs,if_true,if_false] <;> (repeat' split) <;> omega
theorem iF(a b:Ord):jm a b=false↔¬((if a.side=0 then b.af<a.af else a.af<b.af)\/(a.af=b.af/\a.place<b.place)):=by
 rw[<-qK,Bool.not_eq_true]
theorem l9(om:Nat->Ord)(s:Int):Ug (fE om) (fun x=>(om x).side=s):=by
 refine⟨?_,?_,?_⟩
 ·intro x y a b h;unfold fE at *;rw[qK]at h;rw[iF];rw[a]at h;rw[b];split at h <;> simp_all <;> omega
 ·intro x y f a b c d e;unfold fE at *;rw[iF]at *;rw[b]at d;rw[c]at e;rw[c];by_cases hs:s=0 <;> simp only[hs,if_true,if_false]at * <;> omega
 ·intro x a;unfold fE at *;rw[iF];split <;> omega
def Pm(w:World)(om:Nat->Ord)(s:Int)(x:Nat):Prop:=(∃ix,bV w x (om x) ix)/\(om x).side=s
def Ez{w:World}{om:Nat->Ord}{s:Int}(x:{ x:Nat // Pm w om s x }):Value:=uP x.1
def ZJ{w:World}{om:Nat->Ord}{s:Int}(x y:{ x:Nat // Pm w om s x }):Int:=kP (om x.1) (om y.1)
theorem EU{w:World}{om:Nat->Ord}{s:Int}(x y:{ x:Nat // Pm w om s x }):ltOf ZJ x y=fE om x.1 y.1:=rfl
theorem aaY(w:World)(om:Nat->Ord)(s:Int):SWO (ltOf (@ZJ w om s)):=by
 have pre:=l9 om s;refine⟨fun x=>?_,fun x y a b c=>?_,fun x y a b c=>?_⟩
 ·rw[EU];exact pre.irr _ x.2.2
 ·rw[EU]at *;cases h:fE om x.1 a.1 with
  | true=>rfl
  | false =>
    have d:=pre.trans y.1 a.1 x.1 y.2.2 a.2.2 x.2.2 (pre.Uk _ _ y.2.2 a.2.2 c) h;rw[d]at b;exact b
 ·rw[EU]at *;exact pre.trans a.1 y.1 x.1 a.2.2 y.2.2 x.2.2 c b
theorem zZ{α:Type}[Inhabited α](b:α->Value)(w:World)(ay off m:Nat)(a:Array α)(os:Array Obj){k:Nat}(c:k<w.heap.size)(d:k≠ay):(sortWorld b w ay off m a os).heap[k]?=w.heap[k]?:=by
 unfold sortWorld putRow mapBlock grow;simp only[Array.getElem?_append,Array.size_modify,Array.getElem?_modify];rw[if_pos (by simpa [Sort.ahead] using c),if_neg (fun e=>d e.symm)]
 rfl
theorem uT{α:Type}[Inhabited α](b:α->Value)(w:World)(ay off m:Nat)(a:Array α)(os:Array Obj):aj (fun x=>x=ay) w (sortWorld b w ay off m a os) :=
 ⟨rfl,rfl,rfl,by simp[sortWorld,putRow,mapBlock,grow,Sort.ahead],fun k c d=>zZ b w ay off m a os c d⟩
theorem ZK{w:World}{om:Nat->Ord}{s:Int}[Inhabited { x:Nat // Pm w om s x }]{ay size:Nat}{cs:Array Value}(a:au w ay cs 114):CmpLays1 Tryz.prog 83 #[] (@Ez w om s) ZJ ay 0 size w:=by
 intro m os d hs x y;obtain⟨e,b⟩:=x.2.1;obtain⟨f,c⟩:=y.2.1;have k:=uT (@Ez w om s) w ay 0 m d os;exact P6 x.1 y.1 _ _ e f _ (k.ay b (au.ne b a (by decide))) (k.ay c (au.ne c a (by decide)))
theorem SL{w:World}{om:Nat->Ord}{s:Int}[Inhabited { x:Nat // Pm w om s x }]{ay len n:Nat}{f:Nat->Nat}{cs:Array Value}(u:au w ay cs 114){d c:Array { x:Nat // Pm w om s x }}{os:Array Obj}
 (g:d.size=len) (v:∀j,j<len->(d[j]!).1=f j) (hH:Holds Ez w ay 0 d) (m:PermIn 0 d.size d c) (hs:SortedIn (ltOf ZJ) 0 d.size c) :
 ∃o:List Nat,o.Perm (upto f len)/\o.Pairwise (fun a b=>fE om b a=false)/\(∀j,j<len->(sortWorld Ez w ay 0 n c os).cell? ⟨ay,j,none⟩=some (uP (o.getD j 0))):=by
 have q:c.size=len:=m.1.trans g;refine⟨c.toList.map Subtype.val,?_,?_,?_⟩
 ·have p:=m.2.2;rw[g,Array.extract_eq_self_of_le (by omega),Array.extract_eq_self_of_le (by omega)]at p;have t:=p.map Subtype.val;have:d.toList.map Subtype.val=upto f len:=by
   apply List.ext_getElem
   ·simp[upto,g]
   ·intro i A r;have k:i<len:=by simpa [upto] using r
    have:=v i k;rw[getElem!_pos d i (by omega)]at this;simp[upto,this]
  rw[<-this];exact t
 ·rw[List.pairwise_map,List.pairwise_iff_getElem];intro i j k e z;have y:i<c.size:=by simpa using k
  have l:j<c.size:=by simpa using e
  have:=hs i j (Nat.zero_le _) z (by omega);rw[getElem!_pos c i y,getElem!_pos c j l,EU]at this
  simpa using this
 ·intro j e;have:=(holds_sortWorld Ez w ay 0 n d c os u.lt hH m.1 j (by omega)).1;rw[Nat.zero_add,getElem!_pos c j (by omega)]at this;rw[this];have l:j<c.toList.length:=by simpa [q] using e
  simp[Ez,List.getD_eq_getElem?_getD,l,q,e]
theorem FO(ay cap len:Nat)(c:Nat->Nat)(om:Nat->Ord)(s:Int)(w:World)(h0:0<len)(z:len<=100000)(o:∀j,j<len->Pm w om s (c j))(cs:Array Value)(f:au w ay cs 114)(u:∀j,j<len->cs[j]?=some (uP (c j))) :
 CT 128 #[.slice (some ⟨ay,0,none⟩) len cap,.func (.func 83) #[] #[]] w fun e w'=>e=.returned (.tuple #[]) /\
  ∃k:List Nat,k.Perm (upto c len)/\k.Pairwise (fun a b=>fE om b a=false)/\(∀j,j<len->w'.cell? ⟨ay,j,none⟩=some (uP (k.getD j 0)))/\aj (fun x=>x=ay) w w':=by
 let inh:Inhabited { x:Nat // Pm w om s x }:=⟨⟨c 0,o 0 h0⟩⟩;obtain⟨d,g,m⟩:∃d:Array { x:Nat // Pm w om s x },d.size=len/\∀j,j<len->(d[j]!).1=c j:=by
  refine⟨Array.ofFn (n:=len) (fun j=>⟨c j,o j j.2⟩),by simp,fun j i=>?_⟩;rw[getElem!_pos _ j (by simpa using i)];simp
 have hH:Holds Ez w ay 0 d:=by
  intro j i;rw[g]at i;rw[Nat.zero_add];refine⟨(f.cell j).trans ((u j i).trans ?_),f.frozen j⟩;unfold Ez;rw[m j i]
 have p:∀args w,(callFunc 83 args).run Tryz.prog w=.ok (.enter 83 args) w:=enters_of Tryz.func83 (by kernel_rfl) rfl;have l:=Any.slices_SortFunc aaV (@Ez w om s) (fun _=>rfl) ZJ (aaY w om s) 83 #[] ay 0 cap d w p (ZK f) hH f.lt (by omega);change CT 128 _ _ _ at l;rw[g]at l;refine l.mono ?_;rintro e w' ⟨rfl,y,n,os,v,hs,rfl⟩;obtain⟨k,q,r,t⟩:=SL (n:=n) (os:=os) f g m hH (by rw[g];exact v) (by rw[g];exact hs);exact⟨rfl,k,q,r,t,uT _ _ _ _ _ _ _⟩
def Ju(n₀:Nat)(w:World)(v:Value)(ys:List Nat):Prop :=
 (v=.slice none 0 0/\ys=[])\/∃b cap,v=.slice (some ⟨b,0,none⟩) ys.length cap/\n₀<=b/\ys.length<=cap/\∀j,j<ys.length->w.cell? ⟨b,j,none⟩=some (uP (ys.getD j 0))
def vF(len:Nat)(f:Nat->Nat)(om:Nat->Ord)(w:World)(v:Value)(w':World):Prop :=
 ∃ys:List Nat,ys.Perm (upto f len)/\ys.Pairwise (fun a b=>fE om b a=false)/\Ju w.heap.size w' v ys/\Below w.heap.size w w'
theorem aaW(len:Nat)(a:Nat->Nat)(om:Nat->Ord)(s:Int)(w b:World)(v:Value)(y:len<=100000)(u:∀j,j<len->Pm w om s (a j))(A:b.ownsRow w.heap.size 114 1 v len ((upto a len).map uP))(z:v=.slice none 0 0↔upto a len=[])(d:Below w.heap.size w b) :
 CT 128 #[v,.func (.func 83) #[] #[]] b fun e w'=>e=.returned (.tuple #[])/\vF len a om w v w':=by
 obtain⟨G,⟨rfl,rfl⟩ | ⟨g,cap,i,rfl,t,q,E,F,H,B⟩⟩:=A
 ·refine (Lr _ b).mono ?_;rintro e w' ⟨rfl,rfl⟩;exact⟨rfl,[],by simp[upto],List.Pairwise.nil,.inl ⟨rfl,rfl⟩,d⟩
 ·have h0:0<len:=by
   rcases Nat.eq_zero_or_pos len with h | h
   ·subst h;have:=z.2 (by simp[upto]);cases this
   ·exact h
  have x:∀j,j<len->Pm b om s (a j):=fun j f=>by
   obtain⟨⟨D,l⟩,hs⟩:=u j f;exact⟨⟨D,(d.block (a j) l.lt).trans l⟩,hs⟩
  have r:∀j,j<len->i[j]?=some (uP (a j)):=fun j f=>by
   have c:(i.toList.take (len * 1))[j]?=((upto a len).map uP)[j]?:=by rw[B]
   rw[List.getElem?_take,if_pos (by omega)]at c;rw[<-Array.getElem?_toList,c];simp[upto,f]
  refine (FO g cap len a om s b h0 y x i q r).mono ?_;rintro e w' ⟨rfl,m,c,n,o,p⟩;have C:m.length=len:=by rw[c.length_eq,nP]
  refine⟨rfl,m,c,n,.inr ⟨g,cap,by rw[C],t,by omega,fun j f=>o j (by omega)⟩,?_⟩;exact d.trans (p.Um d.size (fun k e=>by omega))
theorem Be(c:Nat)(a:Option Addr)(len cap:Nat)(b:Nat->Nat)(om:Nat->Ord)(s:Int)(n:len<=100000)(w:World)(q:c<w.heap.size)
 (k:w.cell? ⟨c,0,none⟩=some (.slice a len cap)) (i:Ef w.heap.size w a len cap b) (m:∀j,j<len->Pm w om s (b j)) :
 CT 81 #[.func (.func 129) #[] #[PP c],.func (.func 83) #[] #[]] w fun e w'=>∃v,e=.returned v/\vF len b om w v w':=by
 have l:=GK c a len cap b n w q k i;have o:=fun (p:World) (v:Value) g f d=>aaW len b om s w p v n m g f d
 clear k i m;go_enter Tryz.func81,Tryz.ntmps81;go_wp2_with (first | (go_at_call 127;refine l.mono ?_;clear l;rintro e t ⟨v,rfl,g,f,d⟩;have hs:=o t v g f d;clear o g f d) | (go_at_call 128;refine hs.mono ?_;clear hs;rintro e w2 ⟨rfl,r⟩));go_ret;exact⟨v,rfl,r⟩
open Go.RowKit Go.Shelf
attribute [local go_sem] Oper.semAt_some
theorem Gn(n:Nat)(a:Option Addr)(len cap:Nat)(w:World) :
 CallsIn Fence.wide n Tryz.prog 80 #[.slice a len cap] w fun e w'=>e=.returned (.func (.func 126) #[] #[PP w.heap.size])/\w'=w.alloc (.cells #[.slice a len cap] 109):=by
 refine callsIn_of_wp Tryz.func80 rfl trivial ?_ rfl;simp only[Tryz.ntmps80,List.size_toArray,List.length_cons,List.length_nil,Nat.reduceAdd,Nat.reduceSub,Array.replicate_succ,Array.replicate_zero,List.push_toArray,List.append_toArray,List.nil_append,List.cons_append]
 gi_wp2
 go_ret;exact⟨rfl,rfl⟩
theorem Ep(n:Nat)(B:1<=n)(l f m len cap:Nat)(g:Nat->Value)(C:len * 8<=140737488351232)(b:Nat->World->Prop)
 (o:∀k a,b k a->a.cell? ⟨f,0,none⟩=some (.slice (some ⟨m,0,none⟩) len cap)/\∀j,j<len->a.cell? ⟨m,j,none⟩=some (g j))
 (r:∀k j a,k+(j+1)=len->b k a->YieldAt Fence.wide (n-1) Tryz.prog l #[II (j:Int),g j] a fun e c=>e=.returned (.bool true)/\b (k+1) c)
 (a:World) (h0:b 0 a) :
 CallsIn Fence.wide n Tryz.prog 126 #[.func (.yield l) #[] #[],PP f] a fun e c=>(∃v,e=.returned v)/\b len c:=by
 have w:=(o 0 a h0).1;refine callsIn_of_wp Tryz.func126 rfl trivial ?_ rfl;simp only[Tryz.ntmps126,List.size_toArray,List.length_cons,List.length_nil,Nat.reduceAdd,Nat.reduceSub,Array.replicate_succ,Array.replicate_zero,List.push_toArray,List.append_toArray,List.nil_append,List.cons_append]
 gi_wp2
 gi_loopw [3] (fun i wr=>∃k j:Nat,k+j=len/\i=II ((j:Int)-1)/\b k wr)
  (fun i _=>(intOf i+1).toNat)
 case atStart=>exact⟨0,len,by omega,by simp[wrap64],h0⟩
 case round =>
  obtain⟨k,j,t,rfl,d⟩:=hrel;rcases j with _ | j
  ·obtain rfl:k=len:=by omega
   rw[show (((0:Nat):Int)-1) = -1 by omega]
   gi_wp2
   go_end0;exact⟨⟨_,rfl⟩,d⟩
  ·rw[show (((j+1:Nat):Int)-1)=(j:Int) by omega];obtain⟨x,s⟩:=o k wr d;have y:=s j (by omega);have A:j<len:=by omega
   have z:decide ((0:Int)<=(j:Int))=true:=by simp
   obtain⟨fn,tmps,assign,body,D,q⟩:=r k j wr t d
   gi_wp2
   refine q.mono ?_;rintro e u ⟨rfl,p⟩
   gi_wp2
   go_roundw
   case rel=>exact⟨k+1,j,by omega,by simp[wrap64],p⟩
   case measure=>simp[intOf,wrap64]
def WU(n₀ ga:Nat)(W:World)(x:Nat):Prop:=x≠ga/\(x<n₀\/∃c t,au W x c t/\t≠109)
def PQ(n₀:Nat)(W:World)(x:Nat):Prop:=n₀<=x/\∀c t,¬au W x c t
theorem aj.putObj{S:Nat->Prop}{a w:World}(h:aj S a w){l:Nat}(b:S l\/a.heap.size<=l)(o:Obj):aj S a (w.putObj l o) :=
 h.grown (grownBy_putObj' w l o) (fun k e=>by cases e;exact b)
theorem O7{g:Operand}{G:Array Tmp}{assign body:Code}{Q:Exit->Act->World->Prop}{a:Act}{w:World}(n₀ Bs ga len cap:Nat)(B:Nat->Value)(m:Nat->World->Prop)(hreach:len * 8<=140737488351232)
 (hg:a.eval g=.func (.func 126) #[] #[PP Bs]) (hps:G.size=2)
 (hbox:au w Bs #[.slice (some ⟨ga,0,none⟩) len cap] 109) (hB:n₀<=Bs) (W:n₀<=w.heap.size)
 (hs:∀j,j<len->w.cell? ⟨ga,j,none⟩=some (B j)) (hgl:ga<n₀)
 (C:∀k b u,m k b->aj (PQ n₀ b) b u->m k u) (h0:m 0 w) (a₁:Nat->Act)
 (hassign:∀(l j:Nat) (b:World) (R:Act->World->Prop),R (a₁ j) b->assign.wpIn (Fence.wide.inRound l) 4 Tryz.prog (Exit.then R (fun _ _ _=>False)) { tmps:=(G.zip #[II (j:Int),B j]).foldl (fun t (p,v)=>t.setIfInBounds p v) a.tmps,defers:=[] } b)
 (hbody:∀(l k j:Nat) (b:World),k+(j+1)=len->m k b->n₀<=b.heap.size->body.wpIn (Fence.wide.inRound l) 4 Tryz.prog (fun e _ u=>e=.normal/\m (k+1) u/\aj (WU n₀ ga b) b u) (a₁ j) b)
 (hdone:∀(H:Nat) (b:World),n₀<=H->m len b->b.heap[H]?=some (.deferred (some []))->Q .normal { a with defers:={ target:=.collected H,args:=#[] } :: a.defers } b) :
 (Code.rangeFunc g G assign body).wpIn Fence.wide 6 Tryz.prog Q a w:=by
 refine wpIn_rangeFunc ?_;intro fn hfn;obtain⟨f,s⟩:∃f:LoopState->Loop,f=fun st=>{ state:=st,pending:=none,fn,tmps:=a.tmps,params:=G,assign,body,defers:=w.heap.size }:=⟨_,rfl⟩
 obtain⟨i,D⟩:=gy ((w.alloc (.deferred (some []))).alloc (.loop (f .ready)));have hL1:i.heap[w.heap.size+1]?=some (.loop (f .ready)):=by
  rw[D];have:=World.alloc_heap_new (w.alloc (.deferred (some []))) (.loop (f .ready));rwa [World.size_alloc]at this
 have hD1:i.heap[w.heap.size]?=some (.deferred (some [])):=by
  rw[D];exact (Below.heap_alloc _ _ _ (by simp)).trans (World.alloc_heap_new w _)
 have N:aj aA w i:=by rw[D];exact ((aj.refl aA w).alloc _).alloc _
 refine⟨w.heap.size+1,[{ target:=.collected w.heap.size,args:=#[] }],i,{ target:=.fn (.func 126) #[PP Bs],args:=#[.func (.yield (w.heap.size+1)) #[] #[]] },i,126,#[.func (.yield (w.heap.size+1)) #[] #[],PP Bs],i,?_,?_,fun _ _=>trivial,?_,fun h=>by simp[Fence.wide]at h,?_⟩
 ·rw[D,s];exact run_enterLoop_outer _ _ _ _ _
 ·simp only[resolve,hg];simp[go_sem]
 ·have:=enters_of (P:=Tryz.prog) Tryz.func126 (by kernel_rfl) rfl;simp[invoke,go_sem,this _ _]
 have O:∀b x o,n₀<=x->b.heap[x]?=some o->(∀c t,o=.cells c t->t=109)->¬WU n₀ ga b x:=by
  rintro b x o X M hc ⟨_,h | ⟨c,t,h,ht⟩⟩
  ·omega
  ·unfold au at h;rw[M]at h;exact ht (hc c t (by simpa using h))
 refine (Ep 5 (by omega) (w.heap.size+1) Bs ga len cap B hreach (fun k b=>m k b/\au b Bs #[.slice (some ⟨ga,0,none⟩) len cap] 109/\b.heap[ga]?=w.heap[ga]?/\b.heap[w.heap.size+1]?=some (.loop (f .ready))/\b.heap[w.heap.size]?=some (.deferred (some []))) ?_ ?_ i
  ⟨C 0 w i h0 N.aP,N.ay hbox idd,N.block ga (by omega) idd,hL1,hD1⟩).mono ?_
 ·rintro k b ⟨_,z,E,_,_⟩;exact⟨z.cell 0,fun j hj=>(World.cell?_of_block (a:=⟨ga,j,none⟩) E).trans (hs j hj)⟩
 ·rintro k j b hkj ⟨K,z,E,r,J⟩;have hlt:w.heap.size+1<b.heap.size:=(Array.getElem?_eq_some_iff.1 r).1;have Y:=run_yield (P:=Tryz.prog) (args:=#[II (j:Int),B j]) r (by rw[s];simp[hps]);rw[s]at Y;refine⟨fn,_,assign,body,Y,roundIn_of_wpIn hfn (hassign _ j b _ ⟨_,run_beginRound r (by rw[s]),?_⟩)⟩;obtain⟨d,y⟩:=gy (b.putObj (w.heap.size+1) (.loop { f .ready with state:=.busy }));rw[<-y];have V:d.heap[w.heap.size+1]?=some (.loop { f .ready with state:=.busy }):=by rw[y];exact World.putObj_heap_same hlt
  have I:aj (PQ n₀ b) b d:=by
   rw[y];exact (aj.refl _ b).putObj (.inl ⟨by omega,fun c t h=>by unfold au at h;rw[r]at h;cases h⟩) _
  have nR:∀x o,b.heap[x]?=some o->x≠w.heap.size+1->d.heap[x]?=some o:=fun x o M X=>by rw[y];exact (World.putObj_heap_other X).trans M
  have U:=nR _ _ J (by omega);have S:au d Bs #[.slice (some ⟨ga,0,none⟩) len cap] 109:=I.ay z (fun h=>h.2 _ _ z);have abD:d.heap[ga]?=w.heap[ga]?:=by rw[y];exact (World.putObj_heap_other (by omega)).trans E
  have hs2:b.heap.size<=d.heap.size:=I.size;refine wpIn_mono (hbody _ k j d hkj (C k b d K I) (by omega)) ?_;rintro e a3 q ⟨rfl,hi3,F⟩;have L:=(F.block _ (by omega) (O d _ _ (by omega) V (fun c t h=>by cases h))).trans V;have hd3:=(F.block _ (by omega) (O d _ _ W U (fun c t h=>by cases h))).trans U;have T:au q Bs #[.slice (some ⟨ga,0,none⟩) len cap] 109:=F.ay S (O d _ _ hB S (fun c t h=>by simp at h;exact h.2.symm));have abE:q.heap[ga]?=w.heap[ga]?:=(F.block ga (by omega) (fun h=>h.1 rfl)).trans abD;have hlt3:w.heap.size+1<q.heap.size:=(Array.getElem?_eq_some_iff.1 L).1;refine⟨_,_,run_endRound none L,rfl,?_⟩;have er:({ ({ f .ready with state:=.busy }:Loop) with state:=if (none:Option Code).isNone then .ready else .done,pending:=none }:Loop)=f .ready:=by rw[s];rfl
  rw[er];have A:aj (PQ n₀ q) q (q.putObj (w.heap.size+1) (.loop (f .ready))) :=
   (aj.refl _ q).putObj (.inl ⟨by omega,fun c t h=>by unfold au at h;rw[L]at h;cases h⟩) _
  exact⟨C _ _ _ hi3 A,A.ay T (fun h=>h.2 _ _ T),(World.putObj_heap_other (by omega)).trans abE,World.putObj_heap_same hlt3,(World.putObj_heap_other (by omega)).trans hd3⟩
 ·rintro e d ⟨⟨v,rfl⟩,K,z,E,r,J⟩;have A:=fun o=>(aj.refl (PQ n₀ d) d).putObj (l:=w.heap.size+1) (.inl ⟨by omega,fun c t h=>by unfold au at h;rw[r]at h;cases h⟩) o
  refine⟨_,_,run_endLoop r (by rw[s];simp),?_⟩;have Z:(f .ready).pending=none:=by rw[s]
  rw[Z];exact hdone _ _ W (C _ _ _ K (A _)) ((World.putObj_heap_other (by omega)).trans J)
theorem Iz(d len cap:Nat)(b:Nat->Nat × Array Value)(f:Nat->World->Prop)(w:World)(D:len * 8<=140737488351232)
 (hs:∀j,j<len->w.cell? ⟨d,j,none⟩=some (.func (.func (b j).1) #[] (b j).2)) (A:d<w.heap.size)
 (z:∀j,j<len->Enters Tryz.prog (b j).1)
 (v:∀k j a,k+(j+1)=len->f k a->w.heap.size<=a.heap.size->Calls Tryz.prog (b j).1 (b j).2 a fun e g=>e=.returned (.tuple #[])/\f (k+1) g/\aj (WU w.heap.size d a) a g)
 (m:∀k a g,f k a->aj (PQ w.heap.size a) a g->f k g) (h0:f 0 w) :
 CT 45 #[.slice (some ⟨d,0,none⟩) len cap] w fun e w'=>e=.returned (.tuple #[])/\f len w':=by
 refine (callsIn_wide (n:=6)).1 ?_;refine callsIn_of_wp_marks Tryz.func45 rfl trivial ?_ rfl;simp only[Tryz.ntmps45,List.size_toArray,List.length_cons,List.length_nil,Nat.reduceAdd,Nat.reduceSub,Array.replicate_succ,Array.replicate_zero,List.push_toArray,List.append_toArray,List.nil_append,List.cons_append]
 gi_wp2
 refine⟨trivial,(Gn _ _ _ _ _).mono ?_⟩;rintro e H ⟨rfl,rfl⟩
 gi_wp2
 have q:aj aA w (w.alloc (.cells #[.slice (some ⟨d,0,none⟩) len cap] 109)):=(aj.refl aA w).alloc _;refine O7 w.heap.size w.heap.size d len cap (fun j=>.func (.func (b j).1) #[] (b j).2) f D rfl rfl (au.new w _ _) (Nat.le_refl _) q.size (fun j B=>q.cell (hs j B) idd) A m (m 0 _ _ h0 q.aP)
  (fun j=>{ tmps:=#[.slice (some ⟨d,0,none⟩) len cap,undef,undef,.func (.func (b j).1) #[] (b j).2,.slice (some ⟨d,0,none⟩) len cap,.func (.func 126) #[] #[PP w.heap.size],II (j:Int),.func (.func (b j).1) #[] (b j).2,undef,undef],defers:=[] }) ?assign ?body ?done
 case assign =>
  intro l j a F i
  gi_wp2
  exact i
 case body =>
  intro l k j a C o x;have y:=z j (by omega);have s:=v k j a C o x
  gi_wp2
  refine⟨trivial,?_⟩;rw[y _ _,Oper.uponIn_enter];refine⟨fun h=>by simp[Fence.wide,Fence.inRound]at h,?_⟩;refine CallsIn.mono (show CallsIn (Fence.wide.inRound l) 3 _ _ _ _ _ from (callsIn_wide (n:=3)).2 s) ?_;rintro e G ⟨rfl,p,r⟩
  gi_wp2
  all_goals first | exact p | exact r | exact⟨p,r⟩ | exact⟨rfl,p,r⟩
 case done =>
  intro E a u o i;refine⟨by simp,.inl ⟨_,_,rfl,run_takeDeferred i,?_⟩⟩;exact⟨_,results_none rfl _ _ _,rfl,m _ _ _ o ((aj.refl _ a).putObj (.inl ⟨u,fun c t h=>by unfold au at h;rw[i]at h;cases h⟩) _)⟩
end Go.Proofs.YtigaphnafnpfnaaGreatDoor
