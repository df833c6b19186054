import Derived.Test.YtigaphnafnpfnaaGreatDoorQNQ2
import Derived.Test.YtigaphnafnpfnaaGreatDoorQNP1
import Derived.ArgAppend
import Derived.Deep.DeepAppendRoom
import Derived.Laws.AppendOwnNone
set_option linter.unusedVariables false
set_option linter.unusedSimpArgs false
set_option maxHeartbeats 8000000
set_option maxRecDepth 100000
namespace Go.Proofs.YtigaphnafnpfnaaGreatDoor
open Go.RowKit Go.Maps
def Ar(S:RS)(sym:ByteArray)(side:Int)(ls:List kQ)(E:Int):Prop :=
 (E=6/\ls=[]/\jI S.sy sym=false)\/(E=4/\ls=[]/\jI S.sy sym=true/\ni side=false)\/(E=0/\jI S.sy sym=true/\(side=0\/side=1)/\oI S.l sym side ls.length [] ls/\ls.length<=200)
theorem dA.aY{p:Nat->Nat}{V:aS}{S:RS}{N:Nat}(h:dA p V S N)(hN:N<2900000){i s:Nat}(hi:i<V.nb)(hs:s<2){ys:List Nat}(hy:LP V.om ((V.B i).n s) ((V.B i).h s) ys) :
 oI S.l (V.B i).sym (s:Int) (jg (iG V.om ys)).length [] (jg (iG V.om ys))/\(jg (iG V.om ys)).length<=200:=by
 have hM:mN N<=1000000000000000:=by unfold mN;omega
 obtain⟨hp,hso⟩:=hy;have hcnt:=h.count hi hs;have hno:=h.gV;have hmem:∀y∈ys,VL V y/\(V.om y).side=(s:Int):=fun y hy2=>by
  have:=hp.mem_iff.1 hy2;unfold upto at this;rw[List.mem_map]at this;obtain⟨k,hk,rfl⟩:=this;rw[List.mem_range]at hk;have:=((h.gw.gb i hi).mem s hs _).1 ⟨k,hk,rfl⟩;exact⟨this.1,this.2.2.1⟩
 have hlen:(iG V.om ys).length<=200:=by
  unfold iG;rw[List.length_map,hp.length_eq,nD];omega
 have hl2:=vS (iG V.om ys) [];have hL:(jg (iG V.om ys)).length<=200:=by
  unfold jg;simp only[List.length_nil]at hl2;omega
 refine⟨?_,hL⟩;have hspec:=XF (s:Int) (iG V.om ys) (by omega) (fun o ho=>by
  unfold iG at ho;rw[List.mem_map]at ho;obtain⟨y,hy2,rfl⟩:=ho;have q:=h.gw.q y (hmem y hy2).1;have:=q.o0;have:=q.f0;have:=q.c0;have:=q.e0;have:=q.sum;have:=q.hi;omega) (by
  unfold iG;rw[List.pairwise_map];have hpw:ys.Pairwise (fun a b=>(a∈ys/\b∈ys)/\fP V.om b a=false):=by
   rw[List.pairwise_iff_getElem]at hso ⊢;intro a b ha hb hab;exact⟨⟨List.getElem_mem ha,List.getElem_mem hb⟩,hso a b ha hb hab⟩
  refine hpw.imp ?_;rintro a b ⟨⟨ha,hb⟩,hlt⟩;unfold fP at hlt;rw[iF]at hlt;rw[(hmem b hb).2]at hlt;unfold zQ;intro hx;exact hlt (.inl hx))
 refine PQ s hs S.l (V.B i).sym ((iG V.om ys).map po) _ (by have:=h.no;omega) (fun k hk=>by have:=h.aO hk;omega) ?_ hspec;have hperm:=h.perm hi hs;have h1:((iG V.om ys).map po).Perm (((upto ((V.B i).h s) ((V.B i).n s)).map V.om).map po):=by
  unfold iG;exact ((hp.map _).map _)
 refine h1.trans ?_;refine ((hperm.map V.om).map po).trans ?_;rw[List.map_map,List.map_map,List.map_map];refine List.Perm.of_eq (List.map_congr_left (fun k hk=>?_));obtain⟨_,_,_,_,_,e6,_,_,e9,_⟩:=fK (h.same k (Ak.1 hk).1);simp only[Function.comp,po,e6,e9]
open Go.RowKit
attribute [local go_sem ↓] Go.wp_at_zero Go.wp_at_succ
def jf(tr:List Tg):List Tr:=(tr.filter (·.holds)).map (·.t)
theorem ML(l:List Tg)(i:Nat)(x:Tg)(h:l[i]?=some x):jf (l.take (i+1))=jf (l.take i)++(if x.holds then [x.t] else []):=by
 unfold jf;rw[List.take_add_one,h];simp only[Option.toList_some,List.filter_append,List.map_append];cases hx:x.holds <;> simp[hx]
theorem ab9(tmps:Array Value)(H:Nat)(w:World)(t:Tr)(ht:tmps.getD 2 undef=PP H)(hb:aA w H #[II t.num,.string t.sym,II t.af,II t.aK,II t.qC,II t.iK,II t.day] 56) :
 (results Tryz.f43 tmps).run Tryz.prog w=.ok t.val w:=by
 obtain⟨c0,c1,c2,c3,c4,c5,c6⟩:=hb.c7;simp only[Array.getD_eq_getD_getElem?]at ht;simp[results,Tryz.results43,go_sem,ht,c0,c1,c2,c3,c4,c5,c6,Tr.val]
theorem vN(t:Tr)(w:World)(hs:t.sym.size<=100000):CT 43 #[t.val] w fun e w'=>e=.returned t.val/\aj aJ w w':=by
 obtain⟨tn,ts,tp,tq,uY,uZ,td⟩:=t;simp only[Tr.val]at hs ⊢;obtain⟨w1,hw1⟩:=kL ((w.alloc (.cells #[II tn,.string ts,II tp,II tq,II uY,II uZ,II td] 56)).alloc (.cells #[II 0,.string ⟨#[]⟩,II 0,II 0,II 0,II 0,II 0] 56));have k1:aj aJ w w1:=by rw[hw1];exact ((aj.refl aJ w).alloc _).alloc _
 have b1:aA w1 w.heap.size #[II tn,.string ts,II tp,II tq,II uY,II uZ,II td] 56:=by rw[hw1];exact (aA.new w _ _).alloc _
 have r1:aA w1 (w.heap.size+1) #[II 0,.string ⟨#[]⟩,II 0,II 0,II 0,II 0,II 0] 56:=by rw[hw1];exact aA.sQ w _ _ _
 have HW:=au hw1;clear hw1;go_enter Tryz.func43,Tryz.ntmps43;go_wp2_with fail;rw[<-ae HW];refine (yJ ts w1 hs).mono ?_;rintro e w2 ⟨rfl,k2⟩;have b2:=k2.aF b1 aU;have r2:=k2.aF r1 aU;have kk:=k1.trans k2;obtain⟨t0,t1,t2,t3,t4,t5,t6⟩:=b2.c7;have g1:=b2.frozen 1;obtain⟨u0,u1,u2,u3,u4,u5,u6⟩:=r2.c7;have q0:=r2.frozen 0;have q1:=r2.frozen 1;have q2:=r2.frozen 2;have q3:=r2.frozen 3;have q4:=r2.frozen 4;have q5:=r2.frozen 5;have q6:=r2.frozen 6;obtain⟨HB2,HR2,HK⟩:=eY b2 r2 kk;clear b1 r1 b2 r2 k1 k2 kk;go_wp2;refine bodyPost_ret (ab9 _ (w.heap.size+1) _ ⟨tn,ts,tp,tq,uY,uZ,td⟩ rfl ?_) rfl ⟨rfl,?_⟩
 ·exact ((((((((ae HR2).other (a:=⟨w.heap.size,1,none⟩) (by simp) _).set 0 _).set 1 _).set 2 _).set 3 _).set 4 _).set 5 _).set 6 _
 ·exact ((((((((ae HK).setCell (p:=⟨w.heap.size,1,none⟩) (.inr (Nat.le_refl _)) _).setCell (p:=⟨w.heap.size+1,0,none⟩) (.inr (by simp)) _).setCell (p:=⟨w.heap.size+1,1,none⟩) (.inr (by simp)) _).setCell (p:=⟨w.heap.size+1,2,none⟩) (.inr (by simp)) _).setCell (p:=⟨w.heap.size+1,3,none⟩) (.inr (by simp)) _).setCell (p:=⟨w.heap.size+1,4,none⟩) (.inr (by simp)) _).setCell (p:=⟨w.heap.size+1,5,none⟩) (.inr (by simp)) _).setCell (p:=⟨w.heap.size+1,6,none⟩) (.inr (by simp)) _
theorem aae:(Tryz.prog.info? 56).map (fun i=>(i.zero.map (fun z=>z.cells.size),i.size,i.bytes))=some (some 7,7,64):=by kernel_rfl
theorem F9:∃i z,Tryz.prog.info? 56=some i/\i.zero=some z/\i.size=7/\i.bytes=64/\z.cells.size=7:=by
 have h:=aae;cases hi:Tryz.prog.info? 56 with
 | none=>rw[hi]at h;simp at h
 | some i =>
   rw[hi]at h;simp at h;obtain⟨⟨z,hz,hs⟩,h2,h3⟩:=h;exact⟨i,z,rfl,hz,h2,h3,hs⟩
theorem ab1(w:World)(t:Tr):∀j u,t.cells[j]?=some u->(w.alloc (.cells #[II t.num,.string t.sym,II t.af,II t.aK,II t.qC,II t.iK,II t.day] 56)).cell? (Addr.add ⟨w.heap.size,0,none⟩ j)=some u:=by
 intro j u hj;exact World.news_of_block (aA.new w #[II t.num,.string t.sym,II t.af,II t.aK,II t.qC,II t.iK,II t.day] 56) j u hj
def nU(ts:List Tr):List Value:=ts.flatMap Tr.cells
theorem FZ(a b:List Tr):nU (a++b)=nU a++nU b:=by simp[nU,List.flatMap_append]
theorem MC(a:List Tr)(t:Tr):nU (a++[t])=nU a++t.cells:=by rw[FZ];simp[nU]
theorem Bz(tr:List Tg)(i:Nat):(jf (tr.take i)).length<=i:=by
 unfold jf;rw[List.length_map];refine Nat.le_trans (List.length_filter_le _ _) ?_;rw[List.length_take];omega
theorem Ob(bv bm bo:Nat)(G:Lg)(lm:Lm)(w:World)(hL:bG w bv bm bo G lm)(hsy:PI G)(hlen:G.tr.length<=1000000000) :
 CT 20 #[PP bv] w fun e w'=>∃a c,e=.returned (.slice a (jf G.tr).length c)/\w'.ownsRow w.heap.size 56 7 (.slice a (jf G.tr).length c) (jf G.tr).length (nU (jf G.tr))/\aj aJ w w':=by
 obtain⟨n,hn⟩:=mf G.tr.length;obtain⟨pa,pc,zF⟩:=hL.aP.zg hn;have v2:w.cell? ⟨bv,2,none⟩=some (.slice pa n pc):=by rw[<-zF];exact hL.dC.cell 2
 have HX:Hid (∀i,i<n->∃g b x,G.tr[i]?=some x/\pa=some ⟨g,0,none⟩/\w.cell? ⟨g,i,none⟩=some (PP b)/\aA w b (Tg.cells x) 105/\x.t.sym.size<=100000):=by
  intro i hi;have hi':i<G.tr.length:=by omega
  obtain⟨g,cap,b,h1,h2,_,h4⟩:=hL.aP.at (List.getElem?_eq_getElem hi');rw[zF]at h1;simp only[Value.slice.injEq]at h1;exact⟨g,b,_,List.getElem?_eq_getElem hi',h1.1,h2,h4,hsy _ (List.getElem_mem hi')⟩
 rw[hn]at hlen;obtain⟨H,hH⟩:∃H:Nat->List Tr,H=fun i=>jf (G.tr.take i):=⟨_,rfl⟩
 have HS:Hid (∀i x,G.tr[i]?=some x->H (i+1)=H i++(if x.holds then [x.t] else [])):=fun i x hx=>by rw[hH];exact ML _ _ _ hx
 have hLn:∀i,(H i).length<=i:=fun i=>by rw[hH];exact Bz _ _
 have HE:Hid (H n=jf G.tr):=by rw[hH];show jf (G.tr.take n)=_;rw[<-hn,List.take_length]
 have H0:H 0=[]:=by rw[hH];rfl
 have HHG:=au hH;clear hL zF hn hsy hH;go_enter Tryz.func20,Tryz.ntmps20;go_wp2;go_loopg [3,5,11] n (fun k al _ iv wr=>∃i m:Nat,iv=II (i:Int)/\i<=n/\m=(H i).length/\k=n-i/\wr.ownsRow w.heap.size 56 7 al m (nU (H i))/\aj aJ w wr)
 case atStart=>exact⟨0,0,rfl,Nat.zero_le _,by rw[H0];rfl,rfl,by rw[H0];exact World.ownsRow_nil _ _ _ _,aj.refl _ _⟩
 case round =>
  obtain⟨i,m,rfl,hi,hmi,hgk,hrow,kr⟩:=hrel;have adb:=hLn i;obtain⟨xs,hxs⟩:=mf (nU (H i));rw[hxs]at hrow;obtain⟨HXS,HM⟩:=dE hxs hmi;have hm1:m<=i:=by omega
  clear hxs hmi adb hLn;by_cases hlt:i<n
  ·obtain⟨g,b,x,hx,rfl,c1,hb,hsz⟩:=ae HX i hlt;have HN:=au (ae HS i x hx);clear hx;have c1':=kr.cell c1 aU;have hb':=kr.aF hb aU;have c7:CC wr b 7 (.bool x.holds):=hb'.cell 7;obtain⟨t0,t1,t2,t3,t4,t5,t6,-⟩:=hb'.c8;obtain⟨RN,HK⟩:=dE hrow kr;clear hrow kr hb hb' c1;cases hh:x.holds
   ·rw[hh]at c7;go_wp2;go_roundg (n-(i+1))
    case measure=>omega
    case rel =>
     have hN:=ae HN;rw[hh]at hN;simp only[Bool.false_eq_true,if_false,List.append_nil]at hN;exact⟨i+1,m,by push_cast;rfl,by omega,by rw[hN];exact ae HM,rfl,by rw[hN,ae HXS];exact ae RN,ae HK⟩
   ·rw[hh]at c7;obtain⟨va,vc,rfl⟩:∃va vc,u3=.slice va m vc:=by
     rcases (ae RN).2 with⟨h,h0⟩ | ⟨g,cap,cs,h,_⟩
     ·exact⟨none,0,by rw[h,h0]⟩
     ·exact⟨_,cap,h⟩
    have HH:=au (vN x.t wr hsz);go_wp2_with fail;refine (ae HH).mono ?_;rintro e w2 ⟨rfl,k2⟩;have hrow2:=aI (ae RN) k2 (fun _ _ x=>x);have hmx:m+1<=maxLen:=by unfold maxLen;omega
    have sO:(m+1) * 64<=140737488355328:=by omega
    obtain⟨i0,z0,hi0,hz0,hz1,hz2,hz3⟩:=F9;have hrow3:=hrow2.alloc (.cells #[II x.t.num,.string x.t.sym,II x.t.af,II x.t.aK,II x.t.qC,II x.t.iK,II x.t.day] 56);have hbs:w.heap.size<=w2.heap.size:=by have:=(ae HK).size;have:=k2.size;omega
    have HR3:=au hrow3;have zn:=au ((ae HK).trans k2);have hone:∀u∈x.t.cells,u.oneCell'=true:=by simp[Tr.cells,Value.oneCell']
    clear hrow2 hrow3 k2 c7 t0 t1 t2 t3 t4 t5 t6 c1';simp only[Tr.val];go_wp2_with (at_builtin;refine wpList_append_own _ rfl _ _ 39 rfl w.heap.size 56 i0 z0 7 64 Tryz.underlying39 hi0 hz0 hz1 hz2 hz3 (by decide) _ m xs rfl (ae HR3) ⟨w2.heap.size,0,none⟩ 1 1 x.t.cells rfl rfl (ab1 _ _) hone hmx sO (by simp;omega) ?_;intro v' w4 hown' hgrow hnil;clear hnil);change (w2.alloc _).grownBy w4 (Value.slice va m vc).ownBlock at hgrow;go_wp2;go_roundg (n-(i+1))
    case measure=>omega
    case rel =>
     have hN:=ae HN;rw[hh]at hN;simp only[if_true]at hN;refine⟨i+1,m+1,by push_cast;rfl,by omega,by rw[hN,List.length_append,<-ae HM];rfl,rfl,by rw[hN,MC,ae HXS];exact hown',?_⟩;refine aj.grown ((ae zn).alloc _) hgrow (fun k e=>.inr ?_);rcases (ae HR3).2 with⟨h,_⟩ | ⟨g2,cap2,cs2,h,hg2,_⟩
     ·simp only[Value.slice.injEq]at h;rw[h.1]at e;exact absurd e (by simp[Value.ownBlock])
     ·simp only[Value.slice.injEq]at h;rw[h.1]at e;have e':g2=k:=by simpa [Value.ownBlock] using e
      omega
  ·obtain rfl:i=n:=by omega
   obtain⟨va,vc,rfl⟩:∃va vc,u3=.slice va m vc:=by
    rcases hrow.2 with⟨h,h0⟩ | ⟨g,cap,cs,h,_⟩
    ·exact⟨none,0,by rw[h,h0]⟩
    ·exact⟨_,cap,h⟩
   go_wp2;go_ret;rw[<-ae HE,<-ae HM,ae HXS];exact⟨_,_,rfl,hrow,kr⟩
theorem rW{w:World}{base e size m:Nat}{v:Value}{xs:List Value}(h:w.ownsRow base e size v m xs){k:Nat}(hk:v.ownBlock=some k):base<=k:=(h.lt k hk).1
def aa3(lg:Lg):Prop:=∀r∈lg.tp,r.t.sym.size<=100000
theorem Mc(g off m c:Nat)(news:List Value)(w:World)(hm:0<m)(hm2:m<=1000000000)(hl:news.length=m * 9)(hnews:∀j u,news[j]?=some u->w.cell? (Addr.add ⟨g,off,none⟩ j)=some u)(hone:∀u∈news,u.oneCell'=true) :
 CT 42 #[.slice (some ⟨g,off,none⟩) m c] w fun e w'=>∃g' cap',e=.returned (.slice (some ⟨g',0,none⟩) m cap')/\w'.ownsRow w.heap.size 62 9 (.slice (some ⟨g',0,none⟩) m cap') m news/\aj aJ w w':=by
 have qT:∀(w:World) (a:Option Addr) (n c n' c':Nat),(binOp .eql 34 (.slice a n c) (.slice none n' c')).run Tryz.prog w=.ok (.bool a.isNone) w:=fun w a n c n' c'=>Lib.run_eql_slice_nil w _ _ a n c n' c' Tryz.underlying34
 obtain⟨i0,z0,hi0,hz0,hz1,hz2,hz3⟩:=xG;have hmx:0+m<=maxLen:=by unfold maxLen;omega
 have sO:(0+m) * 80<=140737488355328:=by omega
 have HR:=au (World.ownsRow_made (base:=w.heap.size) (e:=62) (size:=9) w #[] 0 (Nat.le_refl _) (by decide) rfl);have HN:Hid (∀j u,news[j]?=some u->(w.alloc (.cells #[] 62)).cell? (Addr.add ⟨g,off,none⟩ j)=some u):=fun j u hj=>by
  exact ((aj.refl aJ w).alloc _).cell (hnews j u hj) aU
 clear hnews;go_enter Tryz.func42,Tryz.ntmps42;go_wp2_with (at_builtin;refine wpList_append_own _ rfl _ _ 34 rfl w.heap.size 62 i0 z0 9 80 Tryz.underlying34 hi0 hz0 hz1 hz2 hz3 (by decide) _ 0 [] rfl (ae HR) ⟨g,off,none⟩ m c news rfl hl (ae HN) hone hmx sO (by simp) ?_;intro v' w4 hown' hgrow hnil;clear hnil);rw[Nat.zero_add,List.nil_append]at hown';change (w.alloc _).grownBy w4 (Value.slice (some ⟨w.heap.size,0,none⟩) 0 0).ownBlock at hgrow;obtain⟨g',cap',rfl⟩:=lT hown' hm;go_wp2;go_ret;refine⟨g',cap',rfl,hown',?_⟩;exact ((aj.refl aJ w).alloc _).grown hgrow (fun k e=>.inr (by simp only[Value.ownBlock,Option.some.injEq]at e;omega))
theorem Tm:∀(rs:List Rc) (i:Nat) (r:Rc) (j:Nat) (u:Value),rs[i]?=some r->r.cells[j]?=some u->(kT rs)[i * 9+j]?=some u:=by
 intro rs
 induction rs with
 | nil=>intro i r j u h;simp at h
 | cons x rs ih =>
   intro i r j u h hu;have hl:x.cells.length=9:=rfl;have hj:j<9:=by
    have:=(List.getElem?_eq_some_iff.1 hu).1
    simpa [Rc.cells] using this
   show (x.cells++kT rs)[i * 9+j]?=some u;cases i with
   | zero =>
     simp only[List.getElem?_cons_zero,Option.some.injEq]at h;subst h;rw[List.getElem?_append_left (by rw[hl];omega)]
     simpa using hu
   | succ i =>
     simp only[List.getElem?_cons_succ]at h;rw[List.getElem?_append_right (by rw[hl];omega),hl];have e:(i+1) * 9+j-9=i * 9+j:=by omega
     rw[e];exact ih i r j u h hu
theorem Qa(rs:List Rc):∀u∈kT rs,u.oneCell'=true:=by
 intro u hu;obtain⟨r,_,h⟩:=List.mem_flatMap.1 hu;simp only[Rc.cells,List.mem_cons,List.not_mem_nil,or_false]at h;rcases h with h | h | h | h | h | h | h | h | h <;> rw[h] <;> rfl
theorem Bi:∀(p:Nat) (rs:List Rc),kT (rs.drop p)=(kT rs).drop (p * 9)
 | 0,rs=>by simp
 | p+1,[]=>by simp[kT]
 | p+1,r :: rs=>by
   rw[List.drop_succ_cons,Bi p rs];show _=(r.cells++kT rs).drop _;have e:(p+1) * 9=r.cells.length+p * 9:=by
    have:r.cells.length=9:=rfl;omega
   rw[e,<-List.drop_drop,List.drop_left]
theorem oZ{w:World}{base e size n g cap:Nat}{xs:List Value}(h:w.ownsRow base e size (.slice (some ⟨g,0,none⟩) n cap) n xs){j:Nat}{u:Value}(hj:xs[j]?=some u):(w.setCell ⟨g,j,none⟩ u).ownsRow base e size (.slice (some ⟨g,0,none⟩) n cap) n xs:=by
 have:=(h.stored j u).1;have e:xs.set j u=xs:=by
  obtain⟨hl,e⟩:=List.getElem?_eq_some_iff.1 hj;rw[<-e];exact List.set_getElem_self hl
 rw[e]at this;exact this
theorem VE(bv bm bo p:Nat)(fr:Int)(G:Lg)(lm:Lm)(w:World)(hL:bG w bv bm bo G lm)(hty:aa3 G)(hlen:G.tp.length<=1000000000)(hp:(fr<=0/\p=0)\/fr=(p:Int)+1)(hp2:p<9223372036854775807) :
 CT 17 #[PP bv,II fr] w fun e w'=>∃a c,e=.returned (.slice a (G.tp.drop p).length c)/\w'.ownsRow w.heap.size 62 9 (.slice a (G.tp.drop p).length c) (G.tp.drop p).length (kT (G.tp.drop p))/\aj aJ w w':=by
 obtain⟨n,hn⟩:=mf G.tp.length;obtain⟨pa,pc,hpv⟩:=QN hL.aP.iO;rw[hn]at hpv hlen;have v3:w.cell? ⟨bv,3,none⟩=some (.slice pa n pc):=by rw[<-hpv];exact hL.dC.cell 3
 have hmax:max fr 1=(p:Int)+1:=by rcases hp with⟨h,rfl⟩ | rfl <;> omega
 by_cases hnp:n<=p
 ·have e0:G.tp.drop p=[]:=List.drop_eq_nil_of_le (by omega);rw[e0];have hgt:decide ((n:Int)<(p:Int)+1)=true:=by simp;omega
  clear hL hpv;go_enter Tryz.func17,Tryz.ntmps17;go_wp2;go_ret;exact⟨none,0,rfl,World.ownsRow_nil _ _ _ _,aj.refl _ _⟩
 ·obtain⟨m,hm⟩:=mf ((G.tp.drop p).length);have hmn:n=p+m:=by rw[List.length_drop]at hm;omega
  have hm0:0<m:=by omega
  obtain⟨g,rfl⟩:∃g,pa=some ⟨g,0,none⟩:=by
   rcases hL.aP.iO.2 with⟨h,h0⟩ | ⟨g,cap,cs,h,_⟩
   ·omega
   ·rw[hpv]at h;injection h with h1 _ _;exact⟨g,h1⟩
  have hcell:∀j u,(kT (G.tp.drop p))[j]?=some u->w.cell? (Addr.add ⟨g,p * 9,none⟩ j)=some u:=fun j u hj=>by
   rw[Bi,List.getElem?_drop]at hj;have h:=hL.aP.iO.cells (g:=g) (by rw[hpv];rfl) _ u hj;have e1:Addr.add ⟨g,0,none⟩ (p * 9+j)=Addr.add ⟨g,p * 9,none⟩ j:=by by_cases h1:j=0 <;> by_cases h2:p=0 <;> simp[Addr.add,h1,h2] <;> omega
   rw[e1]at h;exact h
  have hpc:n<=pc:=by
   rcases hL.aP.iO.2 with⟨h,h0⟩ | ⟨g,cap,cs,h,_,_,h2,_⟩
   ·omega
   ·rw[hpv]at h;injection h with _ _ h3;rw[h3];omega
  have HC:=au (fun (c:Nat)=>Mc g (p * 9) m c (kT (G.tp.drop p)) w hm0 (by omega) (by rw[F5,hm]) hcell (Qa _));have HX:Hid (∀i,i<m->∃r:Rc,r.t.sym.size<=100000/\∀j u,r.cells[j]?=some u->(kT (G.tp.drop p))[i * 9+j]?=some u):=fun i hi=>by
   have hi':i<(G.tp.drop p).length:=by omega
   exact⟨(G.tp.drop p)[i],hty _ (List.mem_of_mem_drop (List.getElem_mem hi')),fun j u hu=>Tm _ i _ j u (List.getElem?_eq_getElem hi') hu⟩
  obtain⟨xs,hxs⟩:=mf (kT (G.tp.drop p));rw[hm,hxs];rw[hxs]at HC HX;have hgt:decide ((n:Int)<(p:Int)+1)=false:=by simp;omega
  clear hL hpv hcell hxs hm hty hn hp;go_enter Tryz.func17,Tryz.ntmps17;go_wp2_with fail;refine (ae HC _).mono ?_;rintro e w2 ⟨g',cap',rfl,hrow,k2⟩;go_wp2;go_loopg [6,7,27] m (fun k _ _ iv wr=>∃i:Nat,iv=II (i:Int)/\i<=m/\k=m-i/\wr.ownsRow w.heap.size 62 9 (.slice (some ⟨g',0,none⟩) m cap') m xs/\aj aJ w wr)
  case atStart=>exact⟨0,rfl,Nat.zero_le _,rfl,hrow,k2⟩
  case round =>
   clear hrow k2;obtain⟨i,rfl,hi,hgk,hrow,kr⟩:=hrel;by_cases hlt:i<m
   ·obtain⟨r,hsz,hx⟩:=ae HX i hlt;have hc:∀j u,r.cells[j]?=some u->wr.cell? ⟨g',i * 9+j,none⟩=some u:=fun j u hu=>by
     have h9:j<9:=by have:=(List.getElem?_eq_some_iff.1 hu).1;simpa [Rc.cells] using this
     rw[hrow.cellAt _ (by omega)];exact hx j u hu
    have c0:CC wr g' (i * 9) (II r.num):=hc 0 _ rfl;have c1:CC wr g' (i * 9+1) (II r.kind):=hc 1 _ rfl;have c2:CC wr g' (i * 9+2) (II r.t.num):=hc 2 _ rfl;have c3:CC wr g' (i * 9+3) (.string r.t.sym):=hc 3 _ rfl;have c4:CC wr g' (i * 9+4) (II r.t.af):=hc 4 _ rfl;have c5:CC wr g' (i * 9+5) (II r.t.aK):=hc 5 _ rfl;have c6:CC wr g' (i * 9+6) (II r.t.qC):=hc 6 _ rfl;have c7:CC wr g' (i * 9+7) (II r.t.iK):=hc 7 _ rfl;have c8:CC wr g' (i * 9+8) (II r.t.day):=hc 8 _ rfl;have HH:Hid (∀W,CT 43 #[.agg #[II r.t.num,.string r.t.sym,II r.t.af,II r.t.aK,II r.t.qC,II r.t.iK,II r.t.day]] W fun e w'=>e=.returned r.t.val/\aj aJ W w'):=fun W=>vN r.t W hsz
    obtain⟨RN,HK,HXI⟩:=eY hrow kr hx;clear hrow kr hc hx;go_wp2_with fail;refine (ae HH _).mono ?_;rintro e w3 ⟨rfl,k3⟩;have OU:aj aJ wr w3:=aj.trans (by repeat (first | exact aj.refl _ _ | refine aj.setCell ?_ _ _ | refine aj.alloc ?_ _)) k3;have row3:=aI (ae RN) OU (fun _ _ x=>x);have hc3:∀j u,r.cells[j]?=some u->w3.cell? ⟨g',i * 9+j,none⟩=some u:=fun j u hu=>by
     have h9:j<9:=by have:=(List.getElem?_eq_some_iff.1 hu).1;simpa [Rc.cells] using this
     rw[row3.cellAt _ (by omega)];exact ae HXI j u hu
    have d2:CC w3 g' (i * 9+2) (II r.t.num):=hc3 2 _ rfl;have d3:CC w3 g' (i * 9+3) (.string r.t.sym):=hc3 3 _ rfl;have d4:CC w3 g' (i * 9+4) (II r.t.af):=hc3 4 _ rfl;have d5:CC w3 g' (i * 9+5) (II r.t.aK):=hc3 5 _ rfl;have d6:CC w3 g' (i * 9+6) (II r.t.qC):=hc3 6 _ rfl;have d7:CC w3 g' (i * 9+7) (II r.t.iK):=hc3 7 _ rfl;have d8:CC w3 g' (i * 9+8) (II r.t.day):=hc3 8 _ rfl;have f2:=row3.frozenAt (i * 9+2);have f3:=row3.frozenAt (i * 9+3);have f4:=row3.frozenAt (i * 9+4);have f5:=row3.frozenAt (i * 9+5);have f6:=row3.frozenAt (i * 9+6);have f7:=row3.frozenAt (i * 9+7);have f8:=row3.frozenAt (i * 9+8);have hgb:=rW row3 (k:=g') rfl;have HR3:=au row3;have LG:=au ((ae HK).trans OU);clear row3 hc3 k3 OU c0 c1 c2 c3 c4 c5 c6 c7 c8;simp only[Tr.val];go_wp2;go_roundg (m-(i+1))
    case measure=>omega
    case rel =>
     have hx:=ae HXI;refine⟨i+1,by push_cast;rfl,by omega,rfl,?_,?_⟩
     ·exact oZ (oZ (oZ (oZ (oZ (oZ (oZ (ae HR3) (hx 2 _ rfl)) (hx 3 _ rfl)) (hx 4 _ rfl)) (hx 5 _ rfl)) (hx 6 _ rfl)) (hx 7 _ rfl)) (hx 8 _ rfl)
     ·exact (((((((ae LG).setCell (p:=⟨g',i * 9+2,none⟩) (.inr hgb) _).setCell (p:=⟨g',i * 9+3,none⟩) (.inr hgb) _).setCell (p:=⟨g',i * 9+4,none⟩) (.inr hgb) _).setCell (p:=⟨g',i * 9+5,none⟩) (.inr hgb) _).setCell (p:=⟨g',i * 9+6,none⟩) (.inr hgb) _).setCell (p:=⟨g',i * 9+7,none⟩) (.inr hgb) _).setCell (p:=⟨g',i * 9+8,none⟩) (.inr hgb) _
   ·obtain rfl:i=m:=by omega
    go_wp2;go_ret;exact⟨_,_,rfl,hrow,kr⟩
theorem uq{w:World}{base e size m cap:Nat}{a:Option Addr}{xs:List Value}(h:w.ownsRow base e size (.slice a m cap) m xs)(hm:0<m):∃g,a=some ⟨g,0,none⟩/\∀i u,xs[i]?=some u->w.cell? ⟨g,i,none⟩=some u:=by
 rcases h.2 with⟨h0,h1⟩ | ⟨g,c,cur,hv,_,hg,_,_,_,ht⟩
 ·omega
 ·injection hv with h1 h2 h3;refine⟨g,h1,fun i u hu=>?_⟩;rw[<-ht]at hu;have hi:=(List.getElem?_eq_some_iff.1 hu).1;rw[List.getElem?_take]at hu;split at hu
  ·simp[World.cell?,hg]
   simpa using hu
  ·simp at hu
theorem Ti:∀(ts:List Tr) (i:Nat) (t:Tr) (j:Nat) (u:Value),ts[i]?=some t->t.cells[j]?=some u->(nU ts)[i * 7+j]?=some u:=by
 intro ts
 induction ts with
 | nil=>intro i t j u h;simp at h
 | cons x ts ih =>
   intro i t j u h hu;have hl:x.cells.length=7:=rfl;have hj:j<7:=by
    have:=(List.getElem?_eq_some_iff.1 hu).1
    simpa [Tr.cells] using this
   show (x.cells++nU ts)[i * 7+j]?=some u;cases i with
   | zero =>
     simp only[List.getElem?_cons_zero,Option.some.injEq]at h;subst h;rw[List.getElem?_append_left (by rw[hl];omega)]
     simpa using hu
   | succ i =>
     simp only[List.getElem?_cons_succ]at h;rw[List.getElem?_append_right (by rw[hl];omega),hl];have e:(i+1) * 7+j-7=i * 7+j:=by omega
     rw[e];exact ih i t j u h hu
def WS(w:World)(base:Nat)(a:Option Addr)(c:Nat)(ts:List Tr):Prop:=w.ownsRow base 56 7 (.slice a ts.length c) ts.length (nU ts)
theorem WS.at{w:World}{base c:Nat}{a:Option Addr}{ts:List Tr}(h:WS w base a c ts){i:Nat}{t:Tr}(ht:ts[i]?=some t):∃g,a=some ⟨g,0,none⟩/\∀j u,t.cells[j]?=some u->w.cell? ⟨g,i * 7+j,none⟩=some u:=by
 have hi:=(List.getElem?_eq_some_iff.1 ht).1;obtain⟨g,e,hc⟩:=uq h (by omega);exact⟨g,e,fun j u hu=>hc _ _ (Ti ts i t j u ht hu)⟩
theorem JY(b1 b2 c1 c2:Nat)(a1 a2:Option Addr)(ts:List Tr)(w:World)(h1:WS w b1 a1 c1 ts)(h2:WS w b2 a2 c2 ts)(hlen:ts.length<=1000000) :
 CT 19 #[.slice a1 ts.length c1,.slice a2 ts.length c2] w fun e w'=>e=.returned (.bool true)/\aj aJ w w':=by
 obtain⟨n,hn⟩:=mf ts.length;have HX:Hid (∀i,i<n->∃(t:Tr) (g1 g2:Nat),a1=some ⟨g1,0,none⟩/\a2=some ⟨g2,0,none⟩/\(∀(j:Nat) (u:Value),t.cells[j]?=some u->w.cell? ⟨g1,i * 7+j,none⟩=some u)/\∀(j:Nat) (u:Value),t.cells[j]?=some u->w.cell? ⟨g2,i * 7+j,none⟩=some u):=fun i hi=>by
  have hi':i<ts.length:=by omega
  obtain⟨g1,e1,x1⟩:=h1.at (List.getElem?_eq_getElem hi');obtain⟨g2,e2,x2⟩:=h2.at (List.getElem?_eq_getElem hi');exact⟨_,g1,g2,e1,e2,x1,x2⟩
 rw[hn]at hlen ⊢;clear h1 h2 hn;go_enter Tryz.func19,Tryz.ntmps19;go_wp2;go_loopg [5] n (fun k iv wr=>∃i:Nat,iv=II (i:Int)/\i<=n/\k=n-i/\aj aJ w wr)
 case atStart=>exact⟨0,rfl,Nat.zero_le _,rfl,aj.refl _ _⟩
 case round =>
  obtain⟨i,rfl,hi,hgk,kr⟩:=hrel;by_cases hlt:i<n
  ·obtain⟨t,g1,g2,rfl,rfl,x1,x2⟩:=ae HX i hlt;have p0:CC wr g1 (i * 7) (II t.num):=kr.cell (x1 0 _ rfl) aU;have p1:CC wr g1 (i * 7+1) (.string t.sym):=kr.cell (x1 1 _ rfl) aU;have p2:CC wr g1 (i * 7+2) (II t.af):=kr.cell (x1 2 _ rfl) aU;have p3:CC wr g1 (i * 7+3) (II t.aK):=kr.cell (x1 3 _ rfl) aU;have p4:CC wr g1 (i * 7+4) (II t.qC):=kr.cell (x1 4 _ rfl) aU;have p5:CC wr g1 (i * 7+5) (II t.iK):=kr.cell (x1 5 _ rfl) aU;have p6:CC wr g1 (i * 7+6) (II t.day):=kr.cell (x1 6 _ rfl) aU;have q0:CC wr g2 (i * 7) (II t.num):=kr.cell (x2 0 _ rfl) aU;have q1:CC wr g2 (i * 7+1) (.string t.sym):=kr.cell (x2 1 _ rfl) aU;have q2:CC wr g2 (i * 7+2) (II t.af):=kr.cell (x2 2 _ rfl) aU;have q3:CC wr g2 (i * 7+3) (II t.aK):=kr.cell (x2 3 _ rfl) aU;have q4:CC wr g2 (i * 7+4) (II t.qC):=kr.cell (x2 4 _ rfl) aU;have q5:CC wr g2 (i * 7+5) (II t.iK):=kr.cell (x2 5 _ rfl) aU;have q6:CC wr g2 (i * 7+6) (II t.day):=kr.cell (x2 6 _ rfl) aU;have HK:=au kr;clear kr x1 x2;go_wp2;go_quiet (fail);go_wp2;go_roundg (n-(i+1))
   case measure=>omega
   case rel=>exact⟨i+1,by push_cast;rfl,by omega,rfl,(ae HK).drewN _⟩
  ·obtain rfl:i=n:=by omega
   go_wp2;go_ret;exact⟨rfl,kr⟩
end Go.Proofs.YtigaphnafnpfnaaGreatDoor
