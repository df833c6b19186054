import Derived.Test.YtigaphnafnpfnaaGreatDoorQNG15
import Derived.Test.YtigaphnafnpfnaaGreatDoorQNQ5
set_option linter.unusedVariables false
set_option linter.unusedSimpArgs false
set_option maxHeartbeats 8000000
set_option maxRecDepth 100000
namespace Go.Proofs.YtigaphnafnpfnaaGreatDoor
open Go.RowKit Go.Maps
attribute [local go_sem ↓] Go.wp_at_zero Go.wp_at_succ
theorem MQ(w:World):CT 34 #[] w fun e w'=>∃x,e=.returned (PP x.bv)/\jq w' x/\aj aJ w w'/\(∀b,KF x b->w.heap.size<=b)/\x.H=[]/\x.N=0/\x.V.lg.tp=[]/\x.V.lg.js=[]:=by
 refine (XI w).mono ?_;rintro e w' ⟨bv,bm,bo,rfl,R,k,h1,h2,h3⟩;have nl:∀x,¬VL nN x:=fun x hx=>by obtain⟨id,h⟩:=hx;simp[nN]at h
 have oz:dA (fun _=>0) nN (kX []) 0:=by
  refine⟨⟨fun i hi=>absurd hi (Nat.not_lt_zero i),fun i j hi=>absurd hi (Nat.not_lt_zero i),fun x hx=>absurd hx (nl x),fun x hx=>absurd hx (nl x),fun x hx=>absurd hx (nl x)⟩,rfl,fun i hi=>absurd hi (Nat.not_lt_zero i),rfl,fun k hk=>absurd hk (Nat.not_lt_zero k),fun id b h=>by simp[nN]at h,fun a b ha=>absurd ha (Nat.not_lt_zero a),fun k hk=>absurd hk (Nat.not_lt_zero k),fun a b ha=>absurd ha (Nat.not_lt_zero a),fun a b ha=>absurd ha (Nat.not_lt_zero a),fun k hk=>absurd hk (Nat.not_lt_zero k),fun k hk=>absurd hk (Nat.not_lt_zero k),fun i hi=>absurd hi (Nat.not_lt_zero i),⟨Int.le_refl _,by decide⟩,rfl,rfl,Nat.le_refl _,Nat.le_refl _,Nat.le_refl _,Nat.zero_le _,Nat.zero_le _,fun k hk=>absurd hk (Nat.not_lt_zero k)⟩
 have sz:vG nN:=⟨fun i hi=>absurd hi (Nat.not_lt_zero i),⟨fun t ht=>by simp[nN,held]at ht,fun id b h=>by simp[nN]at h,fun id b h=>by simp[nN]at h⟩,fun x hx=>by simp[nN]at hx,by show pY [];exact pY.nil,fun k x hx=>by simp[nN]at hx,by show (-9223372036854775808:Int)<=nN.lg.day/\nN.lg.day<9223372036854775808;decide⟩;refine⟨⟨bv,bm,bo,nN,fun _=>0,0,[]⟩,rfl,⟨R,oz,sz,pV.nil ⟨nN,fun _=>0,0,oz,Nat.le_refl _,sz,dQ.refl _,Nat.le_refl _,fun H' n S e=>by simp at e⟩,⟨fun y hy=>by simp at hy,rfl,fun y hy=>by simp at hy⟩,Told.start,Nat.le_refl _⟩,k,?_,rfl,rfl,rfl,rfl⟩;rintro b (hf | ⟨y,hy,_⟩)
 ·rcases hf with h | h | h | ⟨i,hi,_⟩ | ⟨id,h⟩ | h
  ·rw[h];exact h1
  ·rw[h];exact h2
  ·rw[h];exact h3
  ·exact absurd hi (Nat.not_lt_zero i)
  ·simp[nN]at h
  ·simp[nN,Lm.F,gY,Value.ownBlock]at h
 ·simp at hy
def oS(S:RS)(j:Nat):Ord:=ax S.l ((iU S.l ((j:Int)+1)).getD 0)
theorem Jm{x:Kx}{n:Nat}{w:World}(h:jq w x)(hn:Kn x.S n){j:Nat}(hj:j<n)(hn2:n<=1000):CT 26 #[PP x.bv,II ((j:Int)+1)] w fun e w'=>e=.returned (.tuple #[.agg (jd (oS x.S j)),II 0])/\aj aJ w w':=by
 have hf:=h.oz.found ((j:Int)+1);have hs:=(hn.rJ ((j:Int)+1)).2 (by omega);unfold oS;cases hx:iU x.S.l ((j:Int)+1) with
 | none=>rw[hx]at hs;simp at hs
 | some i =>
   rw[hx]at hf;have hi:=(xW hx).1;obtain⟨e1,e2,e3,e4,e5,e6,e7,e8,e9,e10,e11,e12⟩:=fK (h.oz.same i hi);have hst:jd (x.V.om (x.p i))=jd (ax x.S.l i):=by simp only[jd,e1,e2,e3,e4,e5,e6,e7,e8,e9,e10,e11,e12]
   show Calls _ _ _ _ fun e w'=>e=.returned (.tuple #[.agg (jd (ax x.S.l i)),II 0])/\aj aJ w w'
   rw[<-hst];refine KQ x.bv x.bm x.bo (x.p i) x.V _ w h.lG (WalkArith.wf_i64 (by omega)) hf ?_;obtain⟨a,ha,e⟩:=h.oz.gw.sym (x.p i) ⟨_,hf⟩;rw[e];have:=h.sz.sz a ha;omega
theorem vP{x:Kx}{w:World}(h:jq w x){id:Int}(hwf:(Lit.int .i64 id).wf=true)(h0:iU x.S.l id=none):CT 26 #[PP x.bv,II id] w fun e w'=>e=.returned (.tuple #[.agg kE,II 6])/\aj aJ w w' :=
 KO x.bv x.bm x.bo x.V id w h.lG hwf (by rw[h.oz.found,h0];rfl)
def sH(S:RS)(n₀:Nat)(wr:World)(k:Nat)(v:Value):Prop :=
 ∃ls,Ar S (yX (k / 2)) ((k % 2:Nat):Int) ls 0/\oJ n₀ wr v ls
theorem oJ.aC{n₀:Nat}{w w':World}{v:Value}{ls:List kQ}(h:oJ n₀ w v ls){S:Nat->Prop}(k:aj S w w')(hS:∀b c,aA w b c 93->¬S b):oJ n₀ w' v ls:=by
 rcases h with h | ⟨g,cap,cs,e,h1,h2,h3⟩
 ·exact .inl h
 ·exact .inr ⟨g,cap,cs,e,h1,k.aF h2 (hS g cs h2),h3⟩
theorem oJ.form{n₀:Nat}{w:World}{v:Value}{ls:List kQ}(h:oJ n₀ w v ls):∃va vc,v=.slice va ls.length vc:=by
 rcases h with⟨h,h0⟩ | ⟨g,cap,cs,e,_⟩
 ·exact⟨none,0,by rw[h,h0];rfl⟩
 ·exact⟨_,cap,e⟩
theorem OQ{x:Kx}{k n₀:Nat}{w:World}(h:jq w x)(hN:x.N<2000000)(hx:jI x.S.sy (yX (k / 2))=true)(hk:k<4)(hn₀:n₀<=w.heap.size):CT 25 #[PP x.bv,.string (yX (k / 2)),II ((k % 2:Nat):Int)] w fun e w'=>∃va m vc,e=.returned (.tuple #[.slice va m vc,II 0])/\sH x.S n₀ w' k (.slice va m vc)/\aj aJ w w':=by
 have hs3:k % 2<2:=by omega
 obtain⟨i,hi,hi2⟩:=(h.oz.gI _).1 hx;have hb:=WX x.bv x.bm x.bo i (k % 2) x.V w h.lG hi hs3 (by have:=h.sz.sz i hi;unfold maxLen;omega) (fun j hj=>(h.oz.gw.gb i hi).side hs3 hj);rw[hi2]at hb;refine hb.mono ?_;rintro e w' ⟨v,rfl,ys,hy,hlv,hb⟩;obtain⟨b1,b2⟩:=h.oz.aY (by omega) hi hs3 hy;rw[hi2]at b1;obtain⟨va,vc,rfl⟩:=hlv.form;exact⟨va,_,vc,rfl,⟨_,.inr (.inr ⟨rfl,hx,by omega,b1,b2⟩),hlv.base hn₀⟩,aj.qO hb⟩
theorem aan{x:Kx}{n k n₀:Nat}{w:World}(h:jq w x)(hN:x.N<2000000)(hn:Kn x.S n)(hk:k<4)(hn₀:n₀<=w.heap.size):CT 25 #[PP x.bv,.string (yX (k / 2)),II ((k % 2:Nat):Int)] w fun e w'=>∃va m vc,e=.returned (.tuple #[.slice va m vc,II 0])/\sH x.S n₀ w' k (.slice va m vc)/\aj aJ w w':=by
 refine OQ h hN ?_ hk hn₀;unfold yX;split
 ·exact hn.sA
 ·exact hn.sG
theorem BG{x:Kx}{w:World}(h:jq w x)(s:ByteArray)(side:Int)(hs:s.size<=100)(h0:jI x.S.sy s=false):CT 25 #[PP x.bv,.string s,II side] w fun e w'=>e=.returned (.tuple #[.slice none 0 0,II 6])/\aj aJ w w' :=
 FO x.bv x.bm x.bo x.V s side w h.lG (by unfold maxLen;omega) (fun i hi e=>by rw[(h.oz.gI _).2 ⟨i,hi,e⟩]at h0;exact absurd h0 (by decide))
theorem oI.YA{l:List Ord}{sym:ByteArray}{s:Int}:∀{q q':Nat} {out a b:List kQ},oI l sym s q out a->oI l sym s q' out b->a=b:=by
 intro q
 induction q with
 | zero =>
   intro q' out a b h h';rcases h.inv with⟨e,h0⟩ | ⟨f,e,_⟩
   ·rcases h'.inv with⟨e',_⟩ | ⟨f',_,h1,_⟩
    ·rw[e,e']
    ·exact absurd h0 h1
   ·omega
 | succ q ih =>
   intro q' out a b h h';rcases h.inv with⟨e,h0⟩ | ⟨f,e,h0,h2⟩
   ·rcases h'.inv with⟨e',_⟩ | ⟨f',_,h1,_⟩
    ·rw[e,e']
    ·exact absurd h0 h1
   ·rcases h'.inv with⟨_,h1⟩ | ⟨f',_,_,h3⟩
    ·exact absurd h1 h0
    ·obtain rfl:f=q:=by omega
     exact ih h2 h3
theorem Ar.YA{S:RS}{sym:ByteArray}{side:Int}{a b:List kQ}(h:Ar S sym side a 0)(h':Ar S sym side b 0):a=b:=by
 rcases h with⟨e,_⟩ | ⟨e,_⟩ | ⟨_,_,_,h,_⟩
 ·exact absurd e (by decide)
 ·exact absurd e (by decide)
 ·rcases h' with⟨e,_⟩ | ⟨e,_⟩ | ⟨_,_,_,h',_⟩
  ·exact absurd e (by decide)
  ·exact absurd e (by decide)
  ·exact h.YA h'
def mr(o:Ord):List Value:=[II o.id,II o.aG,.string o.sym,II o.side,II o.kind,II o.af,II o.aK,II o.entered,II o.aO,II o.filled,II o.bZ,II o.exp]
def qE(os:List Ord):List Value:=os.flatMap mr
def zZ(S:RS)(n:Nat):List Ord:=(List.range n).map (fun j=>oS S j)
theorem ET(S:RS)(n:Nat):zZ S (n+1)=zZ S n++[oS S n]:=by simp[zZ,List.range_succ]
theorem Bj(os:List Ord)(o:Ord):qE (os++[o])=qE os++mr o:=by simp[qE,List.flatMap_append]
theorem aad:(Tryz.prog.info? 54).map (fun i=>(i.zero.map (fun z=>z.cells.size),i.size,i.bytes))=some (some 12,12,104):=by kernel_rfl
theorem xE:∃i z,Tryz.prog.info? 54=some i/\i.zero=some z/\i.size=12/\i.bytes=104/\z.cells.size=12:=by
 have h:=aad;cases hi:Tryz.prog.info? 54 with
 | none=>rw[hi]at h;simp at h
 | some i =>
   rw[hi]at h;simp at h;obtain⟨⟨z,hz,hs⟩,h2,h3⟩:=h;exact⟨i,z,rfl,hz,h2,h3,hs⟩
theorem aaf:(Tryz.prog.info? 63).map (fun i=>(i.zero,i.size,i.bytes))=some (some (.slice none 0 0),1,24):=by kernel_rfl
theorem kH:∃i,Tryz.prog.info? 63=some i/\i.zero=some (.slice none 0 0)/\i.size=1/\i.bytes=24:=by
 have h:=aaf;cases hi:Tryz.prog.info? 63 with
 | none=>rw[hi]at h;simp at h
 | some i=>rw[hi]at h;simp at h;exact⟨i,rfl,h.1,h.2.1,h.2.2⟩
theorem UL(w:World)(o:Ord):∀j u,(mr o)[j]?=some u->(w.alloc (.cells (jd o) 54)).cell? (Addr.add ⟨w.heap.size,0,none⟩ j)=some u:=by
 intro j u hj;exact World.news_of_block (aA.new w (jd o) 54) j u hj
theorem qR{w:World}{base e size m:Nat}{v:Value}{xs:List Value}(h:w.ownsRow base e size v m xs):∃va vc,v=.slice va m vc:=by
 rcases h.2 with⟨h,h0⟩ | ⟨g,cap,cs,h,_⟩
 ·exact⟨none,0,by rw[h,h0]⟩
 ·exact⟨_,cap,h⟩
def Px:Array Value:=#[.slice none 0 0,.slice none 0 0,.slice none 0 0]
structure Lk(S:RS)(i:Nat)(w:World)(wr:World)(ov:Value):Prop where
 row:wr.ownsRow w.heap.size 54 12 ov i (qE (zZ S i))
 out:aA wr (w.heap.size+1) #[ov,.slice none 0 0,.slice none 0 0] 47
 res:aA wr w.heap.size Px 47
 jV:aj aJ w wr
structure WN(S:RS)(n j:Nat)(w:World)(wr:World)(ov kv:Value)(vs:List Value):Prop where
 row:wr.ownsRow w.heap.size 54 12 ov n (qE (zZ S n))
 sK:wr.ownsRow w.heap.size 63 1 kv j vs
 bks:∀k v,vs[k]?=some v->sH S w.heap.size wr k v
 out:aA wr (w.heap.size+1) #[ov,kv,.slice none 0 0] 47
 res:aA wr w.heap.size Px 47
 jV:aj aJ w wr
theorem yS(w:World)(v:Value)(t:TypeId):∀j u,([v]:List Value)[j]?=some u->(w.alloc (.cells #[v] t)).cell? (Addr.add ⟨w.heap.size,0,none⟩ j)=some u:=by
 intro j u hj;exact World.news_of_block (aA.new w #[v] t) j u hj
theorem qL{S:RS}{n j:Nat}{w wr w2:World}{ov kv:Value}{vs:List Value}{v:Value}(h:WN S n j w wr ov kv vs)(kk:aj aJ wr w2)(hb:sH S w.heap.size w2 j v){j':Nat}(hj':j'=j+1) :
 ∀(o:Obj) (w4:World) (g' cap':Nat),w4.ownsRow w.heap.size 63 1 (.slice (some ⟨g',0,none⟩) j' cap') j' (vs++[v])->(w2.alloc o).grownBy w4 kv.ownBlock->WN S n j' w (w4.setCell ⟨w.heap.size+1,1,none⟩ (.slice (some ⟨g',0,none⟩) j' cap')) ov (.slice (some ⟨g',0,none⟩) j' cap') (vs++[v]):=by
 intro o w4 g' cap' hown hgrow;have jQ:=kk.aF h.out aU;have jC:=kk.aF h.res aU;have CG:=aI h.row kk (fun _ _ x=>x);have IJ:=aI h.sK kk (fun _ _ x=>x);have k4:aj (fun b=>kv.ownBlock=some b) w2 w4:=((aj.refl (fun b=>kv.ownBlock=some b) w2).alloc o).grown hgrow (fun k e=>.inl e);have b4:=k4.aF jQ (fun e=>bY IJ e jQ (by decide) rfl);have r4:=k4.aF jC (fun e=>bY IJ e jC (by decide) rfl);have k5:aj (fun b=>b=w.heap.size+1) w4 (w4.setCell ⟨w.heap.size+1,1,none⟩ (.slice (some ⟨g',0,none⟩) j' cap')):=(aj.refl (fun b=>b=w.heap.size+1) w4).setCell (p:=⟨w.heap.size+1,1,none⟩) (.inl rfl) _;have hlen:vs.length=j:=by have:=h.sK.1;omega
 have lev:∀{x ls},oJ w.heap.size w2 x ls->oJ w.heap.size (w4.setCell ⟨w.heap.size+1,1,none⟩ (.slice (some ⟨g',0,none⟩) j' cap')) x ls:=fun hl =>
  (hl.aC k4 (fun b c hb e=>bY IJ e hb (by decide) rfl)).aC k5 (fun b c hb e=>by rw[e]at hb;exact aA.ne hb b4 (by decide) rfl)
 refine⟨?_,aI hown k5 (fun b hb e=>bY hown hb b4 (by decide) e),fun k x hx=>?_,b4.set 1 _,k5.aF r4 (by omega),?_⟩
 ·refine aI (aI CG k4 (fun b hb e=>?_)) k5 (fun b hb e=>?_)
  ·obtain⟨cs,hc⟩:=bK CG hb;exact bY IJ e hc (by decide) rfl
  ·obtain⟨cs,hc⟩:=bK CG hb;rw[e]at hc;exact aA.ne hc jQ (by decide) rfl
 ·by_cases e:k<vs.length
  ·rw[List.getElem?_append_left e]at hx;obtain⟨ys,hy,hl⟩:=h.bks k x hx;exact⟨ys,hy,lev (hl.aC kk (fun _ _ _ x=>x))⟩
  ·rw[List.getElem?_append_right (by omega)]at hx;have e0:k-vs.length=0:=by
    rcases Nat.eq_zero_or_pos (k-vs.length) with e0 | e0
    ·exact e0
    ·rw[List.getElem?_eq_none (by simp;omega)]at hx;simp at hx
   rw[e0]at hx;simp at hx;subst hx;obtain rfl:k=j:=by omega
   obtain⟨ys,hy,hl⟩:=hb;exact⟨ys,hy,lev hl⟩
 ·refine ((h.jV.trans kk).from (k4.mono (fun b e=>.inr (rW IJ e)))).from (k5.mono (fun b e=>.inr (by omega)))
theorem ab8(tmps:Array Value)(H:Nat)(w:World)(a b c:Value)(ht:tmps.getD 2 undef=PP H)(hu:tmps.getD 3 undef=.bool true)(hb:aA w H #[a,b,c] 47) :
 (results Tryz.f21 tmps).run Tryz.prog w=.ok (.tuple #[.agg #[a,b,c],.bool true]) w:=by
 have c0:CC w H 0 a:=hb.cell 0;have c1:CC w H 1 b:=hb.cell 1;have c2:CC w H 2 c:=hb.cell 2;simp only[Array.getD_eq_getD_getElem?]at ht hu;simp[results,Tryz.results21,go_sem,ht,hu,c0,c1,c2]
theorem OW{S:RS}{n j:Nat}{w wr w2 W:World}{ov kv:Value}{vs:List Value}(h:WN S n j w wr ov kv vs)(kk:aj aJ wr w2)(k5:aj (fun x=>x=w.heap.size+1\/x=w.heap.size) w2 W) :
 W.ownsRow w.heap.size 54 12 ov n (qE (zZ S n))/\W.ownsRow w.heap.size 63 1 kv j vs/\(∀k v,vs[k]?=some v->sH S w.heap.size W k v)/\aj aJ w W:=by
 have jQ:=kk.aF h.out aU;have jC:=kk.aF h.res aU;have no:∀{x c t},aA w2 x c t->t≠47->¬(x=w.heap.size+1\/x=w.heap.size):=by
  rintro x c t hb ht (e | e)
  ·rw[e]at hb;exact aA.ne hb jQ ht rfl
  ·rw[e]at hb;exact aA.ne hb jC ht rfl
 refine⟨aI (aI h.row kk (fun _ _ x=>x)) k5 (fun b hb=>?_),aI (aI h.sK kk (fun _ _ x=>x)) k5 (fun b hb=>?_),fun k v hv=>?_,?_⟩
 ·obtain⟨cs,hc⟩:=bK (aI h.row kk (fun _ _ x=>x)) hb;exact no hc (by decide)
 ·obtain⟨cs,hc⟩:=bK (aI h.sK kk (fun _ _ x=>x)) hb;exact no hc (by decide)
 ·obtain⟨ys,hy,hl⟩:=h.bks k v hv;exact⟨ys,hy,(hl.aC kk (fun _ _ _ x=>x)).aC k5 (fun b c hb=>no hb (by decide))⟩
 ·exact (h.jV.trans kk).from (k5.mono (fun x e=>.inr (by rcases e with e | e <;> omega)))
theorem XB{S:RS}{n j:Nat}{w wr w2:World}{ov kv:Value}{vs:List Value}(h:WN S n j w wr ov kv vs)(kk:aj aJ wr w2)(t a b c d:Value) :
 (((((w2.setCell ⟨w.heap.size+1,2,none⟩ t).setCell ⟨w.heap.size,0,none⟩ a).setCell ⟨w.heap.size,1,none⟩ b).setCell ⟨w.heap.size,2,none⟩ c)).ownsRow w.heap.size 54 12 ov n (qE (zZ S n))/\(((((w2.setCell ⟨w.heap.size+1,2,none⟩ t).setCell ⟨w.heap.size,0,none⟩ a).setCell ⟨w.heap.size,1,none⟩ b).setCell ⟨w.heap.size,2,none⟩ c)).ownsRow w.heap.size 63 1 kv j vs /\
   (∀k v,vs[k]?=some v->sH S w.heap.size (((((w2.setCell ⟨w.heap.size+1,2,none⟩ t).setCell ⟨w.heap.size,0,none⟩ a).setCell ⟨w.heap.size,1,none⟩ b).setCell ⟨w.heap.size,2,none⟩ c)) k v)/\aj aJ w (((((w2.setCell ⟨w.heap.size+1,2,none⟩ t).setCell ⟨w.heap.size,0,none⟩ a).setCell ⟨w.heap.size,1,none⟩ b).setCell ⟨w.heap.size,2,none⟩ c)):=by
 have k5:aj (fun x=>x=w.heap.size+1\/x=w.heap.size) w2 ((((w2.setCell ⟨w.heap.size+1,2,none⟩ t).setCell ⟨w.heap.size,0,none⟩ a).setCell ⟨w.heap.size,1,none⟩ b).setCell ⟨w.heap.size,2,none⟩ c) :=
  ((((aj.refl _ w2).setCell (p:=⟨w.heap.size+1,2,none⟩) (.inl (.inl rfl)) _).setCell (p:=⟨w.heap.size,0,none⟩) (.inl (.inr rfl)) _).setCell (p:=⟨w.heap.size,1,none⟩) (.inl (.inr rfl)) _).setCell (p:=⟨w.heap.size,2,none⟩) (.inl (.inr rfl)) _
 exact OW h kk k5
theorem QG{w:World}{base base' e size n:Nat}{v:Value}{xs:List Value}(h:w.ownsRow base e size v n xs)(hb:base'<=base):w.ownsRow base' e size v n xs:=by
 refine⟨h.1,?_⟩;rcases h.2 with h | ⟨g,cap,cs,e,h1,h2⟩
 ·exact .inl h
 ·exact .inr ⟨g,cap,cs,e,Nat.le_trans hb h1,h2⟩
theorem aas{S:RS}{n j m:Nat}{w wr w2:World}{ov kv tv:Value}{vs xs:List Value}(h:WN S n j w wr ov kv vs)(kk:aj aJ wr w2)(hr:w2.ownsRow wr.heap.size 56 7 tv m xs)(t a b c:Value) :
 (((((w2.setCell ⟨w.heap.size+1,2,none⟩ t).setCell ⟨w.heap.size,0,none⟩ a).setCell ⟨w.heap.size,1,none⟩ b).setCell ⟨w.heap.size,2,none⟩ c)).ownsRow w.heap.size 56 7 tv m xs:=by
 have jQ:=kk.aF h.out aU;have jC:=kk.aF h.res aU;have k5:aj (fun x=>x=w.heap.size+1\/x=w.heap.size) w2 ((((w2.setCell ⟨w.heap.size+1,2,none⟩ t).setCell ⟨w.heap.size,0,none⟩ a).setCell ⟨w.heap.size,1,none⟩ b).setCell ⟨w.heap.size,2,none⟩ c) :=
  ((((aj.refl _ w2).setCell (p:=⟨w.heap.size+1,2,none⟩) (.inl (.inl rfl)) _).setCell (p:=⟨w.heap.size,0,none⟩) (.inl (.inr rfl)) _).setCell (p:=⟨w.heap.size,1,none⟩) (.inl (.inr rfl)) _).setCell (p:=⟨w.heap.size,2,none⟩) (.inl (.inr rfl)) _
 have hr':w2.ownsRow w.heap.size 56 7 tv m xs:=QG hr h.jV.size;refine aI hr' k5 (fun b hb=>?_);obtain⟨cs,hc⟩:=bK hr' hb;rintro (e | e)
 ·rw[e]at hc;exact aA.ne hc jQ (by decide) rfl
 ·rw[e]at hc;exact aA.ne hc jC (by decide) rfl
theorem Qy(x:Kx)(bv P n:Nat)(S:RS)(acts:Int)(w:World)(hx:jq w x)(hbv:x.bv=bv)(hS:x.S=S)(hkn:Kn S n)(hN:x.N<2000000)(hn:n<=200)(hP:aA w P #[PP bv,II n,II acts] 37) :
 CT 21 #[PP P] w fun e w'=>∃oa oc ka kc ta tc vs,e=.returned (.tuple #[.agg #[.slice oa n oc,.slice ka 4 kc,.slice ta (jf S.t).length tc],.bool true])/\w'.ownsRow w.heap.size 56 7 (.slice ta (jf S.t).length tc) (jf S.t).length (nU (jf S.t))/\w'.ownsRow w.heap.size 54 12 (.slice oa n oc) n (qE (zZ S n))/\w'.ownsRow w.heap.size 63 1 (.slice ka 4 kc) 4 vs/\(∀k v,vs[k]?=some v->sH S w.heap.size w' k v)/\aj aJ w w':=by
 obtain⟨tn,htn⟩:=mf ((jf S.t).length);obtain⟨xt,hxt⟩:=mf (nU (jf S.t));have HTA:Hid (∀W,aj aJ w W->CT 20 #[PP bv] W fun e w'=>∃a c,e=.returned (.slice a tn c)/\w'.ownsRow W.heap.size 56 7 (.slice a tn c) tn xt/\aj aJ W w'):=fun W k=>by
  have:=Ob x.bv x.bm x.bo x.V.lg x.V.lm W (hx.aB k).lG.aP hx.sz.sy (by have:=hx.oz.yu;omega);rw[hx.oz.tr,hS,hbv]at this;rw[htn,hxt]at this;exact this
 rw[htn,hxt];clear htn hxt;have WM:Hid (∀(W:World) (k:aj aJ w W) (j:Nat) (hj:j<n),CT 26 #[PP bv,II ((j:Int)+1)] W fun e w'=>e=.returned (.tuple #[.agg (jd (oS S j)),II 0])/\aj aJ W w'):=fun W k j hj=>by
  have:=Jm (hx.aB k) (n:=n) (by rw[hS];exact hkn) hj (by omega);rw[hbv,hS]at this;exact this
 have Y8:Hid (∀(W:World) (k:aj aJ w W) (j:Nat) (hj:j<4),CT 25 #[PP bv,.string (yX (j / 2)),II ((j % 2:Nat):Int)] W fun e w'=>∃va m vc,e=.returned (.tuple #[.slice va m vc,II 0])/\sH S w.heap.size w' j (.slice va m vc)/\aj aJ W w'):=fun W k j hj=>by
  have:=aan (n:=n) (hx.aB k) hN (by rw[hS];exact hkn) hj k.size;rw[hbv,hS]at this;exact this
 have lP:=hP.lt;have Ze:=au hP;clear hx hP hS hbv hkn hN;go_enter Tryz.func21,Tryz.ntmps21;go_wp2;go_loopg [5,6,7] n (fun k idv _ _ wr=>∃(i:Nat) (ov:Value),idv=II ((i:Int)+1)/\i<=n/\k=n-i/\Lk S i w wr ov)
 case atStart =>
  refine⟨0,.slice none 0 0,rfl,Nat.zero_le _,rfl,World.ownsRow_nil _ _ _ _,?_,?_,?_⟩
  ·exact aA.sQ w _ _ _
  ·exact (aA.new w _ _).alloc _
  ·exact ((aj.refl aJ w).alloc _).alloc _
 case round =>
  obtain⟨i,ov,rfl,hi,hgk,lk⟩:=hrel;have Tz:=lk.jV.aF (ae Ze) aU;have p1:CC wr P 1 (II (n:Int)):=Tz.cell 1;have p0:CC wr P 0 (PP bv):=Tz.cell 0;by_cases hlt:i<n
  ·have hS:=au (ae WM wr lk.jV i hlt);obtain⟨va,vc,rfl⟩:=qR lk.row;have e1:decide ((i:Int)+1<=(n:Int))=true:=by simp;omega
   have HL:=au lk;clear lk Tz;go_wp2_with fail;refine (ae hS).mono ?_;rintro e w2 ⟨rfl,k2⟩;have CG:=aI (ae HL).row k2 (fun _ _ x=>x);have jQ:=k2.aF (ae HL).out aU;have jC:=k2.aF (ae HL).res aU;have Wl:=(ae HL).jV.trans k2;have XE:w.heap.size+1<w2.heap.size:=jQ.lt;have o2:CC w2 (w.heap.size+1) 0 (.slice va i vc):=jQ.cell 0;have hmx:i+1<=maxLen:=by unfold maxLen;omega
   have sO:(i+1) * 104<=140737488355328:=by omega
   obtain⟨i0,z0,hi0,hz0,hz1,hz2,hz3⟩:=xE;have hone:∀u∈mr (oS S i),u.oneCell'=true:=by simp[mr,Value.oneCell']
   have hnews:∀j u,(mr (oS S i))[j]?=some u->((w2.alloc (.cells (jd (oS S i)) 54)).alloc (.cells (jd (oS S i)) 54)).cell? (Addr.add ⟨w2.heap.size+1,0,none⟩ j)=some u:=by
    intro j u hj;have:=UL (w2.alloc (.cells (jd (oS S i)) 54)) (oS S i) j u hj;have e:(w2.alloc (.cells (jd (oS S i)) 54)).heap.size=w2.heap.size+1:=by simp
    rw[e]at this;exact this
   have row3:=(CG.alloc (.cells (jd (oS S i)) 54)).alloc (.cells (jd (oS S i)) 54);obtain⟨HR3,zO,Ik,Ip,zn,Az⟩:=zC row3 hnews jQ jC Wl CG;clear CG jQ jC Wl row3 hnews k2 p1 p0 hS HL;have hne5:∀(W:World) (v:Value) (c:Array Value) (xs:List Value) (m:Nat),W.ownsRow w.heap.size 54 12 v m xs->aA W (w.heap.size+1) c 47->v.ownBlock≠some (w.heap.size+1):=fun W v c xs m hr hb e=>bY hr e hb (by decide) rfl
   have HNE:=au hne5;clear hne5;simp only[jd]at HR3 zO ⊢;go_wp2_with (at_builtin;refine wpList_append_own _ rfl _ _ 44 rfl w.heap.size 54 i0 z0 12 104 Tryz.underlying44 hi0 hz0 hz1 hz2 hz3 (by decide) _ i _ rfl (ae HR3) ⟨w2.heap.size+1,0,none⟩ 1 1 (mr (oS S i)) rfl rfl (ae zO) hone hmx sO (by simp;omega) ?_;intro v' w4 hown' hgrow hnil;clear hnil;obtain⟨g',cap',rfl⟩:=lT hown' (by omega);change ((w2.alloc _).alloc _).grownBy w4 (Value.slice va i vc).ownBlock at hgrow;have b4:aA w4 (w.heap.size+1) #[.slice va i vc,.slice none 0 0,.slice none 0 0] 47:=(hgrow.block (w.heap.size+1) (by simp;omega) (fun e=>ae HNE _ _ _ _ _ (ae Az) (ae Ik) e.symm)).trans (((ae Ik).alloc _).alloc _);have r4:aA w4 w.heap.size Px 47:=(hgrow.block w.heap.size (by simp;omega) (fun e=>bY (ae Az) e.symm (ae Ip) (by decide) rfl)).trans (((ae Ip).alloc _).alloc _);have c4:=b4.cell 0;have f4:=b4.frozen 0;simp at c4;have HB4:=au b4;have HR4:=au r4;have Ii:=au hgrow;have Il:=au hown';clear b4 r4 hgrow hown');go_wp2;go_roundg (n-(i+1))
   case measure=>omega
   case rel =>
    refine⟨i+1,.slice (some ⟨g',0,none⟩) (i+1) cap',by push_cast;rfl,by omega,rfl,⟨?_,?_,?_,?_⟩⟩
    ·rw[ET,Bj];refine aI (ae Il) ((aj.refl (fun b=>b=w.heap.size+1) w4).setCell (p:=⟨w.heap.size+1,0,none⟩) (.inl rfl) _) (fun b hb e=>?_);rw[e]at hb;exact ae HNE _ _ _ _ _ (ae Il) (ae HB4) hb
    ·exact (ae HB4).set 0 _
    ·exact (ae HR4).other (by simp) _
    ·exact (((((ae zn).alloc _).alloc _).grown (ae Ii) (fun k e=>.inr (rW (ae Az) e))).setCell (p:=⟨w.heap.size+1,0,none⟩) (.inr (by simp)) _)
  ·obtain rfl:i=n:=by omega
   obtain⟨va,vc,rfl⟩:=qR lk.row;have e1:decide ((i:Int)+1<=(i:Int))=false:=by simp;omega
   have HL:=au lk;clear lk;go_wp2;go_loopg [8,9,10] 4 (fun kk iv _ _ wq=>∃(j:Nat) (kv:Value) (vs:List Value),iv=II (j:Int)/\j<=4/\kk=4-j/\WN S i j w wq (.slice va i vc) kv vs)
   case atStart=>exact⟨0,.slice none 0 0,[],rfl,Nat.zero_le _,rfl,(ae HL).row,World.ownsRow_nil _ _ _ _,by simp,(ae HL).out,(ae HL).res,(ae HL).jV⟩
   case round =>
    obtain⟨j,kv,vs,rfl,hj,abr,wI⟩:=hrel;obtain⟨ka,kc,rfl⟩:=qR wI.sK;have rG:=wI.jV.aF (ae Ze) aU;have XQ:CC wr P 0 (PP bv):=rG.cell 0;by_cases hj4:j<4
    ·have hj0:j=0\/j=1\/j=2\/j=3:=by omega
     rcases hj0 with rfl | rfl | rfl | rfl
     ·have HBc:Hid (∀W,aj aJ wr W->CT 25 #[PP bv,.string ⟨#[65]⟩,II 0] W fun e w'=>∃xa m xc,e=.returned (.tuple #[.slice xa m xc,II 0])/\sH S w.heap.size w' 0 (.slice xa m xc)/\aj aJ W w'):=fun W k=>ae Y8 W (wI.jV.trans k) 0 (by omega)
      have HL2:=au wI;have lPr:P<wr.heap.size:=rG.lt;clear wI rG;go_wp2;go_region_with (go_at_call 25;refine (ae HBc _ (by repeat (first | exact aj.refl _ _ | refine aj.drew ?_ | refine aj.alloc ?_ _))).mono ?_;rintro e w2 ⟨xa,xm,xc,rfl,hbk,k2⟩)
      all_goals
       have kk:aj aJ wr w2:=aj.trans (by repeat (first | exact aj.refl _ _ | refine aj.drew ?_ | refine aj.alloc ?_ _)) k2;have RH:=au (qL (ae HL2) kk hbk rfl);have XE:w.heap.size+1<w2.heap.size:=(kk.aF (ae HL2).out aU).lt;have o1:CC w2 (w.heap.size+1) 1 (.slice ka 0 kc):=(kk.aF (ae HL2).out aU).cell 1;have HR3:=au ((aI (ae HL2).sK kk (fun _ _ x=>x)).alloc (.cells #[.slice xa xm xc] 63));have hbs:w.heap.size<=w2.heap.size+1:=by omega
       obtain⟨i0,hi0,hz0,hz1,hz2⟩:=kH;have HB2:=au (kk.aF (ae HL2).out aU);have Aw:=au (aI (ae HL2).sK kk (fun _ _ x=>x));have zO:=au (yS w2 (.slice xa xm xc) 63);clear k2 kk hbk XQ HBc HL2;go_wp2_with (at_builtin;refine wpList_append_own _ rfl _ _ 45 rfl w.heap.size 63 i0 (.slice none 0 0) 1 24 Tryz.underlying45 hi0 hz0 hz1 hz2 rfl (by decide) _ 0 vs rfl (ae HR3) ⟨w2.heap.size,0,none⟩ 1 1 [.slice xa xm xc] rfl rfl (ae zO) (by simp[Value.oneCell']) (by decide) (by decide) (by simp;omega) ?_;intro v' w4 hown' hgrow hnil;clear hnil;obtain⟨g',cap',rfl⟩:=lT hown' (by omega);change (w2.alloc _).grownBy w4 (Value.slice ka 0 kc).ownBlock at hgrow;have b4:aA w4 (w.heap.size+1) #[.slice va i vc,.slice ka 0 kc,.slice none 0 0] 47:=(hgrow.block (w.heap.size+1) (by simp;omega) (fun e=>bY (ae Aw) e.symm (ae HB2) (by decide) rfl)).trans ((ae HB2).alloc _);have c4:=b4.cell 1;have f4:=b4.frozen 1;simp at c4;have Ii:=au hgrow;have Il:=au hown';clear b4 hgrow hown');go_wp2;go_roundg (4-(0+1))
       case measure=>omega
       case rel=>exact⟨0+1,.slice (some ⟨g',0,none⟩) (0+1) cap',_,rfl,by omega,rfl,ae RH _ _ _ _ (ae Il) (ae Ii)⟩
     ·have HBc:Hid (∀W,aj aJ wr W->CT 25 #[PP bv,.string ⟨#[65]⟩,II 1] W fun e w'=>∃xa m xc,e=.returned (.tuple #[.slice xa m xc,II 0])/\sH S w.heap.size w' 1 (.slice xa m xc)/\aj aJ W w'):=fun W k=>ae Y8 W (wI.jV.trans k) 1 (by omega)
      have HL2:=au wI;have lPr:P<wr.heap.size:=rG.lt;clear wI rG;go_wp2;go_region_with (go_at_call 25;refine (ae HBc _ (by repeat (first | exact aj.refl _ _ | refine aj.drew ?_ | refine aj.alloc ?_ _))).mono ?_;rintro e w2 ⟨xa,xm,xc,rfl,hbk,k2⟩)
      all_goals
       have kk:aj aJ wr w2:=aj.trans (by repeat (first | exact aj.refl _ _ | refine aj.drew ?_ | refine aj.alloc ?_ _)) k2;have RH:=au (qL (ae HL2) kk hbk rfl);have XE:w.heap.size+1<w2.heap.size:=(kk.aF (ae HL2).out aU).lt;have o1:CC w2 (w.heap.size+1) 1 (.slice ka 1 kc):=(kk.aF (ae HL2).out aU).cell 1;have HR3:=au ((aI (ae HL2).sK kk (fun _ _ x=>x)).alloc (.cells #[.slice xa xm xc] 63));have hbs:w.heap.size<=w2.heap.size+1:=by omega
       obtain⟨i0,hi0,hz0,hz1,hz2⟩:=kH;have HB2:=au (kk.aF (ae HL2).out aU);have Aw:=au (aI (ae HL2).sK kk (fun _ _ x=>x));have zO:=au (yS w2 (.slice xa xm xc) 63);clear k2 kk hbk XQ HBc HL2;go_wp2_with (at_builtin;refine wpList_append_own _ rfl _ _ 45 rfl w.heap.size 63 i0 (.slice none 0 0) 1 24 Tryz.underlying45 hi0 hz0 hz1 hz2 rfl (by decide) _ 1 vs rfl (ae HR3) ⟨w2.heap.size,0,none⟩ 1 1 [.slice xa xm xc] rfl rfl (ae zO) (by simp[Value.oneCell']) (by decide) (by decide) (by simp;omega) ?_;intro v' w4 hown' hgrow hnil;clear hnil;obtain⟨g',cap',rfl⟩:=lT hown' (by omega);change (w2.alloc _).grownBy w4 (Value.slice ka 1 kc).ownBlock at hgrow;have b4:aA w4 (w.heap.size+1) #[.slice va i vc,.slice ka 1 kc,.slice none 0 0] 47:=(hgrow.block (w.heap.size+1) (by simp;omega) (fun e=>bY (ae Aw) e.symm (ae HB2) (by decide) rfl)).trans ((ae HB2).alloc _);have c4:=b4.cell 1;have f4:=b4.frozen 1;simp at c4;have Ii:=au hgrow;have Il:=au hown';clear b4 hgrow hown');go_wp2;go_roundg (4-(1+1))
       case measure=>omega
       case rel=>exact⟨1+1,.slice (some ⟨g',0,none⟩) (1+1) cap',_,rfl,by omega,rfl,ae RH _ _ _ _ (ae Il) (ae Ii)⟩
     ·have HBc:Hid (∀W,aj aJ wr W->CT 25 #[PP bv,.string ⟨#[206,145,206,169]⟩,II 0] W fun e w'=>∃xa m xc,e=.returned (.tuple #[.slice xa m xc,II 0])/\sH S w.heap.size w' 2 (.slice xa m xc)/\aj aJ W w'):=fun W k=>ae Y8 W (wI.jV.trans k) 2 (by omega)
      have HL2:=au wI;have lPr:P<wr.heap.size:=rG.lt;clear wI rG;go_wp2;go_region_with (go_at_call 25;refine (ae HBc _ (by repeat (first | exact aj.refl _ _ | refine aj.drew ?_ | refine aj.alloc ?_ _))).mono ?_;rintro e w2 ⟨xa,xm,xc,rfl,hbk,k2⟩)
      all_goals
       have kk:aj aJ wr w2:=aj.trans (by repeat (first | exact aj.refl _ _ | refine aj.drew ?_ | refine aj.alloc ?_ _)) k2;have RH:=au (qL (ae HL2) kk hbk rfl);have XE:w.heap.size+1<w2.heap.size:=(kk.aF (ae HL2).out aU).lt;have o1:CC w2 (w.heap.size+1) 1 (.slice ka 2 kc):=(kk.aF (ae HL2).out aU).cell 1;have HR3:=au ((aI (ae HL2).sK kk (fun _ _ x=>x)).alloc (.cells #[.slice xa xm xc] 63));have hbs:w.heap.size<=w2.heap.size+1:=by omega
       obtain⟨i0,hi0,hz0,hz1,hz2⟩:=kH;have HB2:=au (kk.aF (ae HL2).out aU);have Aw:=au (aI (ae HL2).sK kk (fun _ _ x=>x));have zO:=au (yS w2 (.slice xa xm xc) 63);clear k2 kk hbk XQ HBc HL2;go_wp2_with (at_builtin;refine wpList_append_own _ rfl _ _ 45 rfl w.heap.size 63 i0 (.slice none 0 0) 1 24 Tryz.underlying45 hi0 hz0 hz1 hz2 rfl (by decide) _ 2 vs rfl (ae HR3) ⟨w2.heap.size,0,none⟩ 1 1 [.slice xa xm xc] rfl rfl (ae zO) (by simp[Value.oneCell']) (by decide) (by decide) (by simp;omega) ?_;intro v' w4 hown' hgrow hnil;clear hnil;obtain⟨g',cap',rfl⟩:=lT hown' (by omega);change (w2.alloc _).grownBy w4 (Value.slice ka 2 kc).ownBlock at hgrow;have b4:aA w4 (w.heap.size+1) #[.slice va i vc,.slice ka 2 kc,.slice none 0 0] 47:=(hgrow.block (w.heap.size+1) (by simp;omega) (fun e=>bY (ae Aw) e.symm (ae HB2) (by decide) rfl)).trans ((ae HB2).alloc _);have c4:=b4.cell 1;have f4:=b4.frozen 1;simp at c4;have Ii:=au hgrow;have Il:=au hown';clear b4 hgrow hown');go_wp2;go_roundg (4-(2+1))
       case measure=>omega
       case rel=>exact⟨2+1,.slice (some ⟨g',0,none⟩) (2+1) cap',_,rfl,by omega,rfl,ae RH _ _ _ _ (ae Il) (ae Ii)⟩
     ·have HBc:Hid (∀W,aj aJ wr W->CT 25 #[PP bv,.string ⟨#[206,145,206,169]⟩,II 1] W fun e w'=>∃xa m xc,e=.returned (.tuple #[.slice xa m xc,II 0])/\sH S w.heap.size w' 3 (.slice xa m xc)/\aj aJ W w'):=fun W k=>ae Y8 W (wI.jV.trans k) 3 (by omega)
      have HL2:=au wI;have lPr:P<wr.heap.size:=rG.lt;clear wI rG;go_wp2;go_region_with (go_at_call 25;refine (ae HBc _ (by repeat (first | exact aj.refl _ _ | refine aj.drew ?_ | refine aj.alloc ?_ _))).mono ?_;rintro e w2 ⟨xa,xm,xc,rfl,hbk,k2⟩)
      all_goals
       have kk:aj aJ wr w2:=aj.trans (by repeat (first | exact aj.refl _ _ | refine aj.drew ?_ | refine aj.alloc ?_ _)) k2;have RH:=au (qL (ae HL2) kk hbk rfl);have XE:w.heap.size+1<w2.heap.size:=(kk.aF (ae HL2).out aU).lt;have o1:CC w2 (w.heap.size+1) 1 (.slice ka 3 kc):=(kk.aF (ae HL2).out aU).cell 1;have HR3:=au ((aI (ae HL2).sK kk (fun _ _ x=>x)).alloc (.cells #[.slice xa xm xc] 63));have hbs:w.heap.size<=w2.heap.size+1:=by omega
       obtain⟨i0,hi0,hz0,hz1,hz2⟩:=kH;have HB2:=au (kk.aF (ae HL2).out aU);have Aw:=au (aI (ae HL2).sK kk (fun _ _ x=>x));have zO:=au (yS w2 (.slice xa xm xc) 63);clear k2 kk hbk XQ HBc HL2;go_wp2_with (at_builtin;refine wpList_append_own _ rfl _ _ 45 rfl w.heap.size 63 i0 (.slice none 0 0) 1 24 Tryz.underlying45 hi0 hz0 hz1 hz2 rfl (by decide) _ 3 vs rfl (ae HR3) ⟨w2.heap.size,0,none⟩ 1 1 [.slice xa xm xc] rfl rfl (ae zO) (by simp[Value.oneCell']) (by decide) (by decide) (by simp;omega) ?_;intro v' w4 hown' hgrow hnil;clear hnil;obtain⟨g',cap',rfl⟩:=lT hown' (by omega);change (w2.alloc _).grownBy w4 (Value.slice ka 3 kc).ownBlock at hgrow;have b4:aA w4 (w.heap.size+1) #[.slice va i vc,.slice ka 3 kc,.slice none 0 0] 47:=(hgrow.block (w.heap.size+1) (by simp;omega) (fun e=>bY (ae Aw) e.symm (ae HB2) (by decide) rfl)).trans ((ae HB2).alloc _);have c4:=b4.cell 1;have f4:=b4.frozen 1;simp at c4;have Ii:=au hgrow;have Il:=au hown';clear b4 hgrow hown');go_wp2;go_roundg (4-(3+1))
       case measure=>omega
       case rel=>exact⟨3+1,.slice (some ⟨g',0,none⟩) (3+1) cap',_,rfl,by omega,rfl,ae RH _ _ _ _ (ae Il) (ae Ii)⟩
    ·obtain rfl:j=4:=by omega
     have HT:=au (fun (W:World) (k:aj aJ wr W)=>ae HTA W (wI.jV.trans k));have lPr:P<wr.heap.size:=rG.lt;have HL2:=au wI;clear wI rG;go_wp2_with fail;refine (ae HT wr (aj.refl aJ wr)).mono ?_;rintro e w2 ⟨ta,tc,rfl,hrt,k2⟩;have HRT:=au hrt;clear hrt;have jQ:=k2.aF (ae HL2).out aU;have jC:=k2.aF (ae HL2).res aU;have a0:CC w2 (w.heap.size+1) 0 (.slice va i vc):=jQ.cell 0;have a1:CC w2 (w.heap.size+1) 1 (.slice ka 4 kc):=jQ.cell 1;have a2:CC w2 (w.heap.size+1) 2 (.slice none 0 0):=jQ.cell 2;have g2:=jQ.frozen 2;have b0:CC w2 w.heap.size 0 (.slice none 0 0):=jC.cell 0;have b1:CC w2 w.heap.size 1 (.slice none 0 0):=jC.cell 1;have b2:CC w2 w.heap.size 2 (.slice none 0 0):=jC.cell 2;have f0:=jC.frozen 0;have f1:=jC.frozen 1;have f2:=jC.frozen 2;obtain⟨Ik,HR2,zn⟩:=eY jQ jC k2;clear jQ jC k2 XQ;go_wp2;refine bodyPost_ret (ab8 _ w.heap.size _ (.slice va i vc) (.slice ka 4 kc) (.slice ta tn tc) rfl rfl ?_) rfl ⟨va,vc,ka,kc,ta,tc,vs,rfl,?_,?_⟩
     ·exact ((((ae HR2).other (a:=⟨w.heap.size+1,2,none⟩) (by simp) _).set 0 _).set 1 _).set 2 _
     ·exact aas (ae HL2) (ae zn) (ae HRT) _ _ _ _
     ·exact XB (ae HL2) (ae zn) _ _ _ _ (.bool true)
end Go.Proofs.YtigaphnafnpfnaaGreatDoor
