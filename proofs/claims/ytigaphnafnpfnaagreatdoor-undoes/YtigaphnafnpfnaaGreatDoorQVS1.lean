import Derived.Test.YtigaphnafnpfnaaGreatDoorQVR8
import Derived.Test.YtigaphnafnpfnaaGreatDoorQVR3
set_option linter.unusedVariables false
set_option linter.unusedSimpArgs false
set_option maxHeartbeats 8000000
set_option maxRecDepth 100000
namespace Go.Proofs.YtigaphnafnpfnaaGreatDoor
open Go.RowKit Go.Maps
theorem AB{w:World}{B B' e k:Nat}{v:Value}{n:Nat}{a:List Value}(h:w.ownsRow B e k v n a)(f:B'<=B):w.ownsRow B' e k v n a :=
 ⟨h.1,h.2.imp_right (fun ⟨g,cap,cs,b,c,d⟩=>⟨g,cap,cs,b,Nat.le_trans f c,d⟩)⟩
attribute [local go_sem ↓] Go.wp_at_zero Go.wp_at_succ
theorem aaO(tmps:Array Value)(H:Nat)(w:World)(t:Tr)(a:tmps.getD 2 undef=PP H)(f:au w H #[II t.num,.string t.sym,II t.af,II t.az,II t.lF,II t.dZ,II t.day] 56) :
 (results Tryz.f43 tmps).run Tryz.prog w=.ok t.val w:=by
 obtain⟨c0,c1,b,c,d,c5,e⟩:=f.c7;simp only[Array.getD_eq_getD_getElem?]at a;simp[results,Tryz.results43,go_sem,a,c0,c1,b,c,d,c5,e,Tr.val]
theorem uX(t:Tr)(w:World)(hs:t.sym.size<=100000):CT 43 #[t.val] w fun e w'=>e=.returned t.val/\aj aA w w':=by
 obtain⟨l,g,tp,tq,j,m,k⟩:=t;simp only[Tr.val]at hs ⊢;obtain⟨i,c⟩:=gy ((w.alloc (.cells #[II l,.string g,II tp,II tq,II j,II m,II k] 56)).alloc (.cells #[II 0,.string ⟨#[]⟩,II 0,II 0,II 0,II 0,II 0] 56));have o:aj aA w i:=by rw[c];exact ((aj.refl aA w).alloc _).alloc _
 have n:au i w.heap.size #[II l,.string g,II tp,II tq,II j,II m,II k] 56:=by rw[c];exact (au.new w _ _).alloc _
 have r:au i (w.heap.size+1) #[II 0,.string ⟨#[]⟩,II 0,II 0,II 0,II 0,II 0] 56:=by rw[c];exact au.qm w _ _ _
 have v:=ai c;clear c;go_enter Tryz.func43,Tryz.ntmps43;go_wp2_with fail;rw[<-ae v];refine (xI g i hs).mono ?_;rintro e w2 ⟨rfl,f⟩;have d:=f.ay n idd;have b:=f.ay r idd;have q:=o.trans f;obtain⟨t0,G,t2,t3,t4,t5,H⟩:=d.c7;have y:=d.frozen 1;obtain⟨I,J,K,L,M,N,O⟩:=b.c7;have z:=b.frozen 0;have A:=b.frozen 1;have B:=b.frozen 2;have C:=b.frozen 3;have D:=b.frozen 4;have E:=b.frozen 5;have F:=b.frozen 6;obtain⟨x,u,s⟩:=fK d b q;clear n r d b o f q;go_wp2;refine bodyPost_ret (aaO _ (w.heap.size+1) _ ⟨l,g,tp,tq,j,m,k⟩ rfl ?_) rfl ⟨rfl,?_⟩
 ·exact ((((((((ae u).other (a:=⟨w.heap.size,1,none⟩) (by simp) _).set 0 _).set 1 _).set 2 _).set 3 _).set 4 _).set 5 _).set 6 _
 ·exact ((((((((ae s).setCell (p:=⟨w.heap.size,1,none⟩) (.inr (Nat.le_refl _)) _).setCell (p:=⟨w.heap.size+1,0,none⟩) (.inr (by simp)) _).setCell (p:=⟨w.heap.size+1,1,none⟩) (.inr (by simp)) _).setCell (p:=⟨w.heap.size+1,2,none⟩) (.inr (by simp)) _).setCell (p:=⟨w.heap.size+1,3,none⟩) (.inr (by simp)) _).setCell (p:=⟨w.heap.size+1,4,none⟩) (.inr (by simp)) _).setCell (p:=⟨w.heap.size+1,5,none⟩) (.inr (by simp)) _).setCell (p:=⟨w.heap.size+1,6,none⟩) (.inr (by simp)) _
theorem XF:(Tryz.prog.info? 56).map (fun i=>(i.zero.map (fun a=>a.cells.size),i.size,i.bytes))=some (some 7,7,64):=by kernel_rfl
theorem EI:∃i a,Tryz.prog.info? 56=some i/\i.zero=some a/\i.size=7/\i.bytes=64/\a.cells.size=7:=by
 have h:=XF;cases hi:Tryz.prog.info? 56 with
 | none=>rw[hi]at h;simp at h
 | some i =>
   rw[hi]at h;simp at h;obtain⟨⟨a,d,hs⟩,b,c⟩:=h;exact⟨i,a,rfl,d,b,c,hs⟩
theorem aaF(w:World)(t:Tr):∀j a,t.cells[j]?=some a->(w.alloc (.cells #[II t.num,.string t.sym,II t.af,II t.az,II t.lF,II t.dZ,II t.day] 56)).cell? (Addr.add ⟨w.heap.size,0,none⟩ j)=some a:=by
 intro j a b;exact World.news_of_block (au.new w #[II t.num,.string t.sym,II t.af,II t.az,II t.lF,II t.dZ,II t.day] 56) j a b
def tC(ts:List Tr):List Value:=ts.flatMap Tr.cells
theorem EC(a b:List Tr):tC (a++b)=tC a++tC b:=by simp[tC,List.flatMap_append]
theorem JR(a:List Tr)(t:Tr):tC (a++[t])=tC a++t.cells:=by rw[EC];simp[tC]
theorem Ac(tr:List Tg)(i:Nat):(iE (tr.take i)).length<=i:=by
 unfold iE;rw[List.length_map];refine Nat.le_trans (List.length_filter_le _ _) ?_;rw[List.length_take];omega
theorem LK(bv W X:Nat)(G:Lg)(lm:Lm)(w:World)(p:bz w bv W X G lm)(Q:NC G)(hlen:G.tr.length<=1000000000) :
 CT 20 #[PP bv] w fun e w'=>∃a c,e=.returned (.slice a (iE G.tr).length c)/\w'.ownsRow w.heap.size 56 7 (.slice a (iE G.tr).length c) (iE G.tr).length (tC (iE G.tr))/\aj aA w w':=by
 obtain⟨n,q⟩:=dQ G.tr.length;obtain⟨R,pc,D⟩:=p.aO.yt q;have v2:w.cell? ⟨bv,2,none⟩=some (.slice R n pc):=by rw[<-D];exact p.cO.cell 2
 have V:Hid (∀i,i<n->∃g b x,G.tr[i]?=some x/\R=some ⟨g,0,none⟩/\w.cell? ⟨g,i,none⟩=some (PP b)/\au w b (Tg.cells x) 105/\x.t.sym.size<=100000):=by
  intro i hi;have C:i<G.tr.length:=by omega
  obtain⟨g,cap,b,A,h2,_,h4⟩:=p.aO.at (List.getElem?_eq_getElem C);rw[D]at A;simp only[Value.slice.injEq]at A;exact⟨g,b,_,List.getElem?_eq_getElem C,A.1,h2,h4,Q _ (List.getElem_mem C)⟩
 rw[q]at hlen;obtain⟨H,hH⟩:∃H:Nat->List Tr,H=fun i=>iE (G.tr.take i):=⟨_,rfl⟩
 have HS:Hid (∀i x,G.tr[i]?=some x->H (i+1)=H i++(if x.holds then [x.t] else [])):=fun i x r=>by rw[hH];exact Aa _ _ _ r
 have K:∀i,(H i).length<=i:=fun i=>by rw[hH];exact Ac _ _
 have S:Hid (H n=iE G.tr):=by rw[hH];show iE (G.tr.take n)=_;rw[<-q,List.take_length]
 have F:H 0=[]:=by rw[hH];rfl
 have HHG:=ai hH;clear p D q Q hH;go_enter Tryz.func20,Tryz.ntmps20;go_wp2;go_loopg [3,5,11] n (fun k al _ iv wr=>∃i m:Nat,iv=II (i:Int)/\i<=n/\m=(H i).length/\k=n-i/\wr.ownsRow w.heap.size 56 7 al m (tC (H i))/\aj aA w wr)
 case atStart=>exact⟨0,0,rfl,Nat.zero_le _,by rw[F];rfl,rfl,by rw[F];exact World.ownsRow_nil _ _ _ _,aj.refl _ _⟩
 case round =>
  obtain⟨i,m,rfl,hi,N,hgk,l,o⟩:=hrel;have abN:=K i;obtain⟨xs,E⟩:=dQ (tC (H i));rw[E]at l;obtain⟨z,v⟩:=aZ E N;have hm1:m<=i:=by omega
  clear E N abN K;by_cases hlt:i<n
  ·obtain⟨g,b,x,r,rfl,c1,L,hsz⟩:=ae V i hlt;have I:=ai (ae HS i x r);clear r;have Y:=o.cell c1 idd;have B:=o.ay L idd;have c7:CC wr b 7 (.bool x.holds):=B.cell 7;obtain⟨t0,t1,t2,t3,t4,t5,t6,-⟩:=B.c8;obtain⟨y,HK⟩:=aZ l o;clear l o L B c1;cases hh:x.holds
   ·rw[hh]at c7;go_wp2;go_roundg (n-(i+1))
    case measure=>omega
    case rel =>
     have d:=ae I;rw[hh]at d;simp only[Bool.false_eq_true,if_false,List.append_nil]at d;exact⟨i+1,m,by push_cast;rfl,by omega,by rw[d];exact ae v,rfl,by rw[d,ae z];exact ae y,ae HK⟩
   ·rw[hh]at c7;obtain⟨f,j,rfl⟩:∃f j,u3=.slice f m j:=by
     rcases (ae y).2 with⟨h,h0⟩ | ⟨g,cap,cs,h,_⟩
     ·exact⟨none,0,by rw[h,h0]⟩
     ·exact⟨_,cap,h⟩
    have T:=ai (uX x.t wr hsz);go_wp2_with fail;refine (ae T).mono ?_;rintro e w2 ⟨rfl,s⟩;have O:=aB (ae y) s (fun _ _ x=>x);have hmx:m+1<=maxLen:=by unfold maxLen;omega
    have lH:(m+1) * 64<=140737488355328:=by omega
    obtain⟨i0,z0,hi0,hz0,hz1,hz2,hz3⟩:=EI;have P:=O.alloc (.cells #[II x.t.num,.string x.t.sym,II x.t.af,II x.t.az,II x.t.lF,II x.t.dZ,II x.t.day] 56);have hbs:w.heap.size<=w2.heap.size:=by have:=(ae HK).size;have:=s.size;omega
    have J:=ai P;have U:=ai ((ae HK).trans s);have hone:∀u∈x.t.cells,u.oneCell'=true:=by simp[Tr.cells,Value.oneCell']
    clear O P s c7 t0 t1 t2 t3 t4 t5 t6 Y;simp only[Tr.val];go_wp2_with (at_builtin;refine wpList_append_own _ rfl _ _ 39 rfl w.heap.size 56 i0 z0 7 64 Tryz.underlying39 hi0 hz0 hz1 hz2 hz3 (by decide) _ m xs rfl (ae J) ⟨w2.heap.size,0,none⟩ 1 1 x.t.cells rfl rfl (aaF _ _) hone hmx lH (by simp;omega) ?_;intro v' w4 hown' M hnil;clear hnil);change (w2.alloc _).grownBy w4 (Value.slice f m j).ownBlock at M;go_wp2;go_roundg (n-(i+1))
    case measure=>omega
    case rel =>
     have d:=ae I;rw[hh]at d;simp only[if_true]at d;refine⟨i+1,m+1,by push_cast;rfl,by omega,by rw[d,List.length_append,<-ae v];rfl,rfl,by rw[d,JR,ae z];exact hown',?_⟩;refine aj.grown ((ae U).alloc _) M (fun k e=>.inr ?_);rcases (ae J).2 with⟨h,_⟩ | ⟨Z,cap2,cs2,h,hg2,_⟩
     ·simp only[Value.slice.injEq]at h;rw[h.1]at e;exact absurd e (by simp[Value.ownBlock])
     ·simp only[Value.slice.injEq]at h;rw[h.1]at e;have e':Z=k:=by simpa [Value.ownBlock] using e
      omega
  ·obtain rfl:i=n:=by omega
   obtain⟨f,j,rfl⟩:∃f j,u3=.slice f m j:=by
    rcases l.2 with⟨h,h0⟩ | ⟨g,cap,cs,h,_⟩
    ·exact⟨none,0,by rw[h,h0]⟩
    ·exact⟨_,cap,h⟩
   go_wp2;go_ret;rw[<-ae S,<-ae v,ae z];exact⟨_,_,rfl,l,o⟩
theorem Qu(l:List Tr):tC l=pY l:=rfl
theorem Yc{w:World}{base e size m:Nat}{v:Value}{b:List Value}(h:w.ownsRow base e size v m b){k:Nat}(a:v.ownBlock=some k):base<=k:=(h.lt k a).1
def Zx(lg:Lg):Prop:=∀r∈lg.tp,r.t.sym.size<=100000
theorem JL(g off m c:Nat)(news:List Value)(w:World)(u:0<m)(E:m<=1000000000)(t:news.length=m * 9)(hnews:∀j b,news[j]?=some b->w.cell? (Addr.add ⟨g,off,none⟩ j)=some b)(hone:∀b∈news,b.oneCell'=true) :
 CT 42 #[.slice (some ⟨g,off,none⟩) m c] w fun e w'=>∃d cap',e=.returned (.slice (some ⟨d,0,none⟩) m cap')/\w'.ownsRow w.heap.size 62 9 (.slice (some ⟨d,0,none⟩) m cap') m news/\aj aA w w':=by
 have F:∀(w:World) (a:Option Addr) (n c l f:Nat),(binOp .eql 34 (.slice a n c) (.slice none l f)).run Tryz.prog w=.ok (.bool a.isNone) w:=fun w a n c l f=>Lib.run_eql_slice_nil w _ _ a n c l f Tryz.underlying34
 obtain⟨i0,z0,r,z,A,B,C⟩:=lX;have x:0+m<=maxLen:=by unfold maxLen;omega
 have v:(0+m) * 80<=140737488355328:=by omega
 have q:=ai (World.ownsRow_made (base:=w.heap.size) (e:=62) (size:=9) w #[] 0 (Nat.le_refl _) (by decide) rfl);have p:Hid (∀j b,news[j]?=some b->(w.alloc (.cells #[] 62)).cell? (Addr.add ⟨g,off,none⟩ j)=some b):=fun j b s=>by
  exact ((aj.refl aA w).alloc _).cell (hnews j b s) idd
 clear hnews;go_enter Tryz.func42,Tryz.ntmps42;go_wp2_with (at_builtin;refine wpList_append_own _ rfl _ _ 34 rfl w.heap.size 62 i0 z0 9 80 Tryz.underlying34 r z A B C (by decide) _ 0 [] rfl (ae q) ⟨g,off,none⟩ m c news rfl t (ae p) hone x v (by simp) ?_;intro G D i o y;clear y);rw[Nat.zero_add,List.nil_append]at i;change (w.alloc _).grownBy D (Value.slice (some ⟨w.heap.size,0,none⟩) 0 0).ownBlock at o;obtain⟨d,cap',rfl⟩:=Fb i u;go_wp2;go_ret;refine⟨d,cap',rfl,i,?_⟩;exact ((aj.refl aA w).alloc _).grown o (fun k e=>.inr (by simp only[Value.ownBlock,Option.some.injEq]at e;omega))
theorem Qv:∀(a:List Rc) (i:Nat) (r:Rc) (j:Nat) (b:Value),a[i]?=some r->r.cells[j]?=some b->(gm a)[i * 9+j]?=some b:=by
 intro a
 induction a with
 | nil=>intro i r j b h;simp at h
 | cons x a ih =>
   intro i r j b h d;have c:x.cells.length=9:=rfl;have f:j<9:=by
    have:=(List.getElem?_eq_some_iff.1 d).1
    simpa [Rc.cells] using this
   show (x.cells++gm a)[i * 9+j]?=some b;cases i with
   | zero =>
     simp only[List.getElem?_cons_zero,Option.some.injEq]at h;subst h;rw[List.getElem?_append_left (by rw[c];omega)]
     simpa using d
   | succ i =>
     simp only[List.getElem?_cons_succ]at h;rw[List.getElem?_append_right (by rw[c];omega),c];have e:(i+1) * 9+j-9=i * 9+j:=by omega
     rw[e];exact ih i r j b h d
theorem Ob(c:List Rc):∀a∈gm c,a.oneCell'=true:=by
 intro a b;obtain⟨r,_,h⟩:=List.mem_flatMap.1 b;simp only[Rc.cells,List.mem_cons,List.not_mem_nil,or_false]at h;rcases h with h | h | h | h | h | h | h | h | h <;> rw[h] <;> rfl
theorem zW:∀(p:Nat) (a:List Rc),gm (a.drop p)=(gm a).drop (p * 9)
 | 0,a=>by simp
 | p+1,[]=>by simp[gm]
 | p+1,r :: a=>by
   rw[List.drop_succ_cons,zW p a];show _=(r.cells++gm a).drop _;have e:(p+1) * 9=r.cells.length+p * 9:=by
    have:r.cells.length=9:=rfl;omega
   rw[e,<-List.drop_drop,List.drop_left]
theorem pI{w:World}{base e size n g cap:Nat}{a:List Value}(h:w.ownsRow base e size (.slice (some ⟨g,0,none⟩) n cap) n a){j:Nat}{b:Value}(c:a[j]?=some b):(w.setCell ⟨g,j,none⟩ b).ownsRow base e size (.slice (some ⟨g,0,none⟩) n cap) n a:=by
 have:=(h.stored j b).1;have e:a.set j b=a:=by
  obtain⟨d,e⟩:=List.getElem?_eq_some_iff.1 c;rw[<-e];exact List.set_getElem_self d
 rw[e]at this;exact this
theorem Tc(bv bm bo p:Nat)(C:Int)(G:Lg)(lm:Lm)(w:World)(u:bz w bv bm bo G lm)(S:Zx G)(hlen:G.tp.length<=1000000000)(R:(C<=0/\p=0)\/C=(p:Int)+1)(hp2:p<9223372036854775807) :
 CT 17 #[PP bv,II C] w fun e w'=>∃a c,e=.returned (.slice a (G.tp.drop p).length c)/\w'.ownsRow w.heap.size 62 9 (.slice a (G.tp.drop p).length c) (G.tp.drop p).length (gm (G.tp.drop p))/\aj aA w w':=by
 obtain⟨n,Q⟩:=dQ G.tp.length;obtain⟨V,W,y⟩:=aJ u.aO.fQ;rw[Q]at y hlen;have v3:w.cell? ⟨bv,3,none⟩=some (.slice V n W):=by rw[<-y];exact u.cO.cell 3
 have hmax:max C 1=(p:Int)+1:=by rcases R with⟨h,rfl⟩ | rfl <;> omega
 by_cases hnp:n<=p
 ·have e0:G.tp.drop p=[]:=List.drop_eq_nil_of_le (by omega);rw[e0];have hgt:decide ((n:Int)<(p:Int)+1)=true:=by simp;omega
  clear u y;go_enter Tryz.func17,Tryz.ntmps17;go_wp2;go_ret;exact⟨none,0,rfl,World.ownsRow_nil _ _ _ _,aj.refl _ _⟩
 ·obtain⟨m,D⟩:=dQ ((G.tp.drop p).length);have hmn:n=p+m:=by rw[List.length_drop]at D;omega
  have hm0:0<m:=by omega
  obtain⟨g,rfl⟩:∃g,V=some ⟨g,0,none⟩:=by
   rcases u.aO.fQ.2 with⟨h,h0⟩ | ⟨g,cap,cs,h,_⟩
   ·omega
   ·rw[y]at h;injection h with E _ _;exact⟨g,E⟩
  have N:∀j d,(gm (G.tp.drop p))[j]?=some d->w.cell? (Addr.add ⟨g,p * 9,none⟩ j)=some d:=fun j d P=>by
   rw[zW,List.getElem?_drop]at P;have h:=u.aO.fQ.cells (g:=g) (by rw[y];rfl) _ d P;have e1:Addr.add ⟨g,0,none⟩ (p * 9+j)=Addr.add ⟨g,p * 9,none⟩ j:=by by_cases E:j=0 <;> by_cases M:p=0 <;> simp[Addr.add,E,M] <;> omega
   rw[e1]at h;exact h
  have hpc:n<=W:=by
   rcases u.aO.fQ.2 with⟨h,h0⟩ | ⟨g,cap,cs,h,_,_,M,_⟩
   ·omega
   ·rw[y]at h;injection h with _ _ h3;rw[h3];omega
  have J:=ai (fun (c:Nat)=>JL g (p * 9) m c (gm (G.tp.drop p)) w hm0 (by omega) (by rw[ED,D]) N (Ob _));have K:Hid (∀i,i<m->∃r:Rc,r.t.sym.size<=100000/\∀j d,r.cells[j]?=some d->(gm (G.tp.drop p))[i * 9+j]?=some d):=fun i hi=>by
   have O:i<(G.tp.drop p).length:=by omega
   exact⟨(G.tp.drop p)[i],S _ (List.mem_of_mem_drop (List.getElem_mem O)),fun j d A=>Qv _ i _ j d (List.getElem?_eq_getElem O) A⟩
  obtain⟨xs,F⟩:=dQ (gm (G.tp.drop p));rw[D,F];rw[F]at J K;have hgt:decide ((n:Int)<(p:Int)+1)=false:=by simp;omega
  clear u y N F D S Q R;go_enter Tryz.func17,Tryz.ntmps17;go_wp2_with fail;refine (ae J _).mono ?_;rintro e w2 ⟨b,cap',rfl,z,T⟩;go_wp2;go_loopg [6,7,27] m (fun k _ _ iv wr=>∃i:Nat,iv=II (i:Int)/\i<=m/\k=m-i/\wr.ownsRow w.heap.size 62 9 (.slice (some ⟨b,0,none⟩) m cap') m xs/\aj aA w wr)
  case atStart=>exact⟨0,rfl,Nat.zero_le _,rfl,z,T⟩
  case round =>
   clear z T;obtain⟨i,rfl,hi,hgk,z,H⟩:=hrel;by_cases hlt:i<m
   ·obtain⟨r,hsz,f⟩:=ae K i hlt;have o:∀j d,r.cells[j]?=some d->wr.cell? ⟨b,i * 9+j,none⟩=some d:=fun j d A=>by
     have h9:j<9:=by have:=(List.getElem?_eq_some_iff.1 A).1;simpa [Rc.cells] using this
     rw[z.cellAt _ (by omega)];exact f j d A
    have c0:CC wr b (i * 9) (II r.num):=o 0 _ rfl;have c1:CC wr b (i * 9+1) (II r.kind):=o 1 _ rfl;have c2:CC wr b (i * 9+2) (II r.t.num):=o 2 _ rfl;have c3:CC wr b (i * 9+3) (.string r.t.sym):=o 3 _ rfl;have c4:CC wr b (i * 9+4) (II r.t.af):=o 4 _ rfl;have c5:CC wr b (i * 9+5) (II r.t.az):=o 5 _ rfl;have c6:CC wr b (i * 9+6) (II r.t.lF):=o 6 _ rfl;have c7:CC wr b (i * 9+7) (II r.t.dZ):=o 7 _ rfl;have c8:CC wr b (i * 9+8) (II r.t.day):=o 8 _ rfl;have X:Hid (∀B,CT 43 #[.agg #[II r.t.num,.string r.t.sym,II r.t.af,II r.t.az,II r.t.lF,II r.t.dZ,II r.t.day]] B fun e w'=>e=.returned r.t.val/\aj aA B w'):=fun B=>uX r.t B hsz
    obtain⟨abh,Y,L⟩:=fK z H f;clear z H o f;go_wp2_with fail;refine (ae X _).mono ?_;rintro e q ⟨rfl,U⟩;have I:aj aA wr q:=aj.trans (by repeat (first | exact aj.refl _ _ | refine aj.setCell ?_ _ _ | refine aj.alloc ?_ _)) U;have l:=aB (ae abh) I (fun _ _ x=>x);have s:∀j d,r.cells[j]?=some d->q.cell? ⟨b,i * 9+j,none⟩=some d:=fun j d A=>by
     have h9:j<9:=by have:=(List.getElem?_eq_some_iff.1 A).1;simpa [Rc.cells] using this
     rw[l.cellAt _ (by omega)];exact ae L j d A
    have d2:CC q b (i * 9+2) (II r.t.num):=s 2 _ rfl;have d3:CC q b (i * 9+3) (.string r.t.sym):=s 3 _ rfl;have d4:CC q b (i * 9+4) (II r.t.af):=s 4 _ rfl;have d5:CC q b (i * 9+5) (II r.t.az):=s 5 _ rfl;have d6:CC q b (i * 9+6) (II r.t.lF):=s 6 _ rfl;have d7:CC q b (i * 9+7) (II r.t.dZ):=s 7 _ rfl;have d8:CC q b (i * 9+8) (II r.t.day):=s 8 _ rfl;have f2:=l.frozenAt (i * 9+2);have f3:=l.frozenAt (i * 9+3);have f4:=l.frozenAt (i * 9+4);have f5:=l.frozenAt (i * 9+5);have f6:=l.frozenAt (i * 9+6);have f7:=l.frozenAt (i * 9+7);have f8:=l.frozenAt (i * 9+8);have v:=Yc l (k:=b) rfl;have HR3:=ai l;have Z:=ai ((ae Y).trans I);clear l s U I c0 c1 c2 c3 c4 c5 c6 c7 c8;simp only[Tr.val];go_wp2;go_roundg (m-(i+1))
    case measure=>omega
    case rel =>
     have f:=ae L;refine⟨i+1,by push_cast;rfl,by omega,rfl,?_,?_⟩
     ·exact pI (pI (pI (pI (pI (pI (pI (ae HR3) (f 2 _ rfl)) (f 3 _ rfl)) (f 4 _ rfl)) (f 5 _ rfl)) (f 6 _ rfl)) (f 7 _ rfl)) (f 8 _ rfl)
     ·exact (((((((ae Z).setCell (p:=⟨b,i * 9+2,none⟩) (.inr v) _).setCell (p:=⟨b,i * 9+3,none⟩) (.inr v) _).setCell (p:=⟨b,i * 9+4,none⟩) (.inr v) _).setCell (p:=⟨b,i * 9+5,none⟩) (.inr v) _).setCell (p:=⟨b,i * 9+6,none⟩) (.inr v) _).setCell (p:=⟨b,i * 9+7,none⟩) (.inr v) _).setCell (p:=⟨b,i * 9+8,none⟩) (.inr v) _
   ·obtain rfl:i=m:=by omega
    go_wp2;go_ret;exact⟨_,_,rfl,z,H⟩
open Go.RowKit
def Zw(R:List Rc):Prop:=∀(i:Nat) (r:Rc),R[i]?=some r->r.num=(i:Int)+1
theorem JU{R:List Rc}(h:Zw R){n:Int}{p:Nat}(a:(n<=0/\p=0)\/n=(p:Int)+1):lI R n=R.drop p:=by
 have k:∀(R:List Rc) (o:Nat),(∀(i:Nat) (r:Rc),R[i]?=some r->r.num=(i:Int)+o+1)->∀p:Nat,((n<=(o:Int)+1/\p=0)\/n=(p:Int)+o+1)->R.filter (fun r=>decide (n<=r.num))=R.drop p:=by
  intro R
  induction R with
  | nil=>intro o _ p _;simp
  | cons r R ih =>
    intro o hs p a;have h0:r.num=(o:Int)+1:=by have:=hs 0 r rfl;simpa using this
    have c:∀(i:Nat) (x:Rc),R[i]?=some x->x.num=(i:Int)+((o+1:Nat):Int)+1:=fun i x j=>by
     have:=hs (i+1) x (by simpa using j);rw[this];push_cast;omega
    cases p with
    | zero =>
      have f:n<=r.num:=by rcases a with h | h <;> omega
      have e:=ih (o+1) c 0 (.inl ⟨by rcases a with h | h <;> push_cast <;> omega,rfl⟩);rw[List.filter_cons,if_pos (by simpa using f),e]
      rfl
    | succ p =>
      have b:n=((p+1:Nat):Int)+o+1:=by
       rcases a with h | h
       ·omega
       ·exact h
      have d:¬n<=r.num:=by push_cast at b;omega
      have e:=ih (o+1) c p (.inr (by push_cast at b ⊢;omega));rw[List.filter_cons,if_neg (by simpa using d),e]
      rfl
 refine k R 0 (fun i r g=>by have:=h i r g;rw[this];push_cast;omega) p ?_;rcases a with h | h
 ·exact .inl ⟨by omega,h.2⟩
 ·exact .inr (by omega)
theorem NF(x:Pr)(o:kQ)(w:World)(h:jU w x)(hT:qj w)(hN:x.N<2000000)(H:o.kind=2)(F:qC o) :
 CT 60 #[.agg #[PP x.bv,PP x.rb],o.val] w fun e w'=>e=.returned (.bool true)/\FX x w w':=by
 obtain⟨kind,m,a,b,c,s,⟨id,aG,sym,side,iK,af,az⟩⟩:=o;simp only at H;subst H;obtain⟨y,G,K,J,g,B,z,E,D,L⟩:=nD x 2 m a b c s id aG sym side iK af az w h;have t:=ai (RU x.bv x.bm x.bo x.N x.V x.p x.S s y g.kK g.oG (by omega) g.sz (by have:=F.s;simp only at this;omega));obtain⟨j,Z,R,Q,U,T,W,Gg,v⟩:=wL L g B z E D K J G;simp only[kQ.val,kQ.cells];simp only[bC]at v;clear h hT F K J g B z E D L G;go_enter Tryz.func60,Tryz.ntmps60;go_wp2_with fail;rw[<-ae v];refine (ae t).mono ?_;rintro e w2 ⟨P,rfl,l⟩;have d:=l.jW;have i:∀b,w.heap.size<=b->¬bY x.bv x.bm x.bo x.V b:=fun b f hf=>ae j b f (.inl hf)
 have C:=d.ay (ae R) (i _ (by omega));have A:=d.ay (ae Q) (i _ (by omega));have O:=d.ay (ae U) (i _ (by omega));have M:=d.ay (ae T) (i _ (by omega));have q1:CC w2 w.heap.size 1 (PP x.rb):=C.cell 1;have o5:CC w2 (w.heap.size+1) 5 (.string s):=A.cell 5;obtain⟨Y,HZ,HY,PH⟩:=gY l O M d;clear l d i C A O M t;go_wp2_with fail;have u:CT 99 #[PP x.rb,(CJ s).val] w2 fun e w'=>e=.returned (.tuple #[dm 0 0 0 0 0,II P])/\CG x aA y w'/\aj (RF x.rb x.av x.rv) w2 w':=vT (ae Z) hN (ae Y) (aj.refl aA w2) (fun b f=>f.elim)
 refine u.mono ?_;rintro e w3 ⟨rfl,I,q⟩;have k:=q.ay (ae HZ) (fun n=>ae j _ (by omega) (.inr (.inl n)));have r:=q.ay (ae HY) (fun n=>ae j _ (by omega) (.inr (.inl n)));obtain⟨u0,u1,u2,u3,u4⟩:=k.c5;obtain⟨v0,v1,v2,v3,v4⟩:=r.c5;have lu:=k.lt;have lv:=r.lt;have X:=ai I;simp only[dm];clear I q k r u q1 o5;go_wp2;go_ret;exact⟨by first | rfl | simp,CG.of (ae W) (ae X) (fun b f=>f.elim)⟩
theorem Gi(x:Pr)(o:kQ)(w:World)(h:jU w x)(H:qj w)(hN:x.N<2000000)(J:o.kind=4)(G:qC o) :
 CT 60 #[.agg #[PP x.bv,PP x.rb],o.val] w fun e w'=>e=.returned (.bool true)/\FX x w w':=by
 obtain⟨kind,m,a,b,c,s,⟨id,aG,sym,side,iK,af,az⟩⟩:=o;simp only at J;subst J;obtain⟨z,I,q,L,g,C,A,F,E,M⟩:=nD x 4 m a b c s id aG sym side iK af az w h;have u:=ai (KO x.bv x.bm x.bo x.N x.V x.p x.S a z g.kK (H.ax q) g.oG (by omega) g.sz (EG G.a));obtain⟨j,WA,T,R,W,U,X,Gg,y⟩:=wL M g C A F E q L I;simp only[kQ.val,kQ.cells];simp only[bC]at y;clear h H G q L g C A F E M I;go_enter Tryz.func60,Tryz.ntmps60;go_wp2_with fail;rw[<-ae y];refine (ae u).mono ?_;rintro e w2 ⟨Q,rfl,l⟩;have d:=l.jW;have i:∀b,w.heap.size<=b->¬bY x.bv x.bm x.bo x.V b:=fun b f hf=>ae j b f (.inl hf)
 have D:=d.ay (ae T) (i _ (by omega));have B:=d.ay (ae R) (i _ (by omega));have P:=d.ay (ae W) (i _ (by omega));have O:=d.ay (ae U) (i _ (by omega));have q1:CC w2 w.heap.size 1 (PP x.rb):=D.cell 1;have o2:CC w2 (w.heap.size+1) 2 (II a):=B.cell 2;obtain⟨Z,HZ,HY,PH⟩:=gY l P O d;clear l d i D B P O u;go_wp2_with fail;have v:CT 99 #[PP x.rb,(uq a).val] w2 fun e w'=>e=.returned (.tuple #[dm 0 0 0 0 0,II Q])/\CG x aA z w'/\aj (RF x.rb x.av x.rv) w2 w':=vT (ae WA) hN (ae Z) (aj.refl aA w2) (fun b f=>f.elim)
 refine v.mono ?_;rintro e w3 ⟨rfl,K,r⟩;have k:=r.ay (ae HZ) (fun n=>ae j _ (by omega) (.inr (.inl n)));have t:=r.ay (ae HY) (fun n=>ae j _ (by omega) (.inr (.inl n)));obtain⟨u0,u1,u2,u3,u4⟩:=k.c5;obtain⟨v0,v1,v2,v3,v4⟩:=t.c5;have lu:=k.lt;have lv:=t.lt;have Y:=ai K;simp only[dm];clear K r k t v q1 o2;go_wp2;go_ret;exact⟨by first | rfl | simp,CG.of (ae X) (ae Y) (fun b f=>f.elim)⟩
theorem Jw(x:Pr)(o:kQ)(w:World)(h:jU w x)(F:qj w)(hN:x.N<2000000)(H:o.kind=10)(hO:qC o) :
 CT 60 #[.agg #[PP x.bv,PP x.rb],o.val] w fun e w'=>e=.returned (.bool true)/\FX x w w':=by
 obtain⟨kind,m,a,b,c,s,⟨id,aG,sym,side,iK,af,az⟩⟩:=o;simp only at H;subst H;obtain⟨z,G,q,J,g,B,A,E,D,K⟩:=nD x 10 m a b c s id aG sym side iK af az w h;have u:=ai (OE x.bv x.bm x.bo x.N x.V x.p x.S z g.kK (F.ax q) g.oG (by omega) g.sz);obtain⟨j,X,P,O,R,Q,T,Gg,y⟩:=wL K g B A E D q J G;simp only[kQ.val,kQ.cells];simp only[bC]at y;clear h F hO q J g B A E D K G;go_enter Tryz.func60,Tryz.ntmps60;go_wp2_with fail;rw[<-ae y];refine (ae u).mono ?_;rintro e w2 ⟨rfl,l⟩;have d:=l.jW;have i:∀b,w.heap.size<=b->¬bY x.bv x.bm x.bo x.V b:=fun b f hf=>ae j b f (.inl hf)
 have C:=d.ay (ae P) (i _ (by omega));have bo2:=d.ay (ae O) (i _ (by omega));have M:=d.ay (ae R) (i _ (by omega));have L:=d.ay (ae Q) (i _ (by omega));have q1:CC w2 w.heap.size 1 (PP x.rb):=C.cell 1;obtain⟨W,Z,Y,PH⟩:=gY l M L d;clear l d i C bo2 M L u;go_wp2_with fail;have v:CT 99 #[PP x.rb,(zI).val] w2 fun e w'=>e=.returned (.tuple #[dm 0 0 0 0 0,II 0])/\CG x aA z w'/\aj (RF x.rb x.av x.rv) w2 w':=vT (ae X) hN (ae W) (aj.refl aA w2) (fun b f=>f.elim)
 refine v.mono ?_;rintro e w3 ⟨rfl,I,r⟩;have k:=r.ay (ae Z) (fun n=>ae j _ (by omega) (.inr (.inl n)));have t:=r.ay (ae Y) (fun n=>ae j _ (by omega) (.inr (.inl n)));obtain⟨u0,u1,u2,u3,u4⟩:=k.c5;obtain⟨v0,v1,v2,v3,v4⟩:=t.c5;have lu:=k.lt;have lv:=t.lt;have U:=ai I;simp only[dm];clear I r k t v q1;go_wp2;go_ret;exact⟨by first | rfl | simp,CG.of (ae T) (ae U) (fun b f=>f.elim)⟩
end Go.Proofs.YtigaphnafnpfnaaGreatDoor
