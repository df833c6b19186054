import Derived.Test.YtigaphnafnpfnaaGreatDoorQVR8
import Derived.Test.YtigaphnafnpfnaaGreatDoorQVP3
import Derived.Laws.AppendOwnNone
set_option linter.unusedVariables false
set_option linter.unusedSimpArgs false
set_option maxHeartbeats 8000000
set_option maxRecDepth 100000
namespace Go.Proofs.YtigaphnafnpfnaaGreatDoor
open Go.RowKit Go.Maps
attribute [local go_sem ↓] Go.wp_at_zero Go.wp_at_succ
theorem rM{w:World}{base e size m:Nat}{v:Value}{xs:List Value}(h:w.ownsRow base e size v m xs){k:Nat}(hk:v.ownBlock=some k):base<=k:=(h.lt k hk).1
def YZ(lg:Lg):Prop:=∀r∈lg.tp,r.t.sym.size<=100000
theorem Jf(g off m c:Nat)(news:List Value)(w:World)(hm:0<m)(hm2:m<=1000000000)(hl:news.length=m * 9)(hnews:∀j u,news[j]?=some u->w.cell? (Addr.add ⟨g,off,none⟩ j)=some u)(hone:∀u∈news,u.oneCell'=true) :
 Calls Tryz.prog 42 #[.slice (some ⟨g,off,none⟩) m c] w fun e w'=>∃g' cap',e=.returned (.slice (some ⟨g',0,none⟩) m cap')/\w'.ownsRow w.heap.size 62 9 (.slice (some ⟨g',0,none⟩) m cap') m news/\au aP w w':=by
 have qT:∀(w:World) (a:Option Addr) (n c n' c':Nat),(binOp .eql 34 (.slice a n c) (.slice none n' c')).run Tryz.prog w=.ok (.bool a.isNone) w:=fun w a n c n' c'=>Lib.run_eql_slice_nil w _ _ a n c n' c' Tryz.underlying34
 obtain⟨i0,z0,hi0,hz0,hz1,hz2,hz3⟩:=vF
 have hmx:0+m<=maxLen:=by unfold maxLen;omega
 have tC:(0+m) * 80<=140737488355328:=by omega
 have HR:=ai (World.ownsRow_made (base:=w.heap.size) (e:=62) (size:=9) w #[] 0 (Nat.le_refl _) (by decide) rfl)
 have HN:Hid (∀j u,news[j]?=some u->(w.alloc (.cells #[] 62)).cell? (Addr.add ⟨g,off,none⟩ j)=some u):=fun j u hj=>by
  exact ((au.refl aP w).alloc _).cell (hnews j u hj) (fun x=>x)
 clear hnews
 go_enter Tryz.func42,Tryz.ntmps42
 go_wp2_with (at_builtin;refine wpList_append_own _ rfl _ _ 34 rfl w.heap.size 62 i0 z0 9 80 Tryz.underlying34 hi0 hz0 hz1 hz2 hz3 (by decide) _ 0 [] rfl (ae HR) ⟨g,off,none⟩ m c news rfl hl (ae HN) hone hmx tC (by simp) ?_;intro v' w4 hown' hgrow hnil;clear hnil)
 rw[Nat.zero_add,List.nil_append]at hown'
 change (w.alloc _).grownBy w4 (Value.slice (some ⟨w.heap.size,0,none⟩) 0 0).ownBlock at hgrow
 obtain⟨g',cap',rfl⟩:=og hown' hm
 go_wp2
 go_ret
 refine⟨g',cap',rfl,hown',?_⟩
 exact ((au.refl aP w).alloc _).grown hgrow (fun k e=>.inr (by simp only[Value.ownBlock,Option.some.injEq]at e;omega))
theorem zu:∀(rs:List Rc) (i:Nat) (r:Rc) (j:Nat) (u:Value),rs[i]?=some r->r.cells[j]?=some u->(iW rs)[i * 9+j]?=some u:=by
 intro rs
 induction rs with
 | nil=>intro i r j u h;simp at h
 | cons x rs ih =>
   intro i r j u h hu
   have hl:x.cells.length=9:=rfl
   have hj:j<9:=by
    have:=(List.getElem?_eq_some_iff.1 hu).1
    simpa [Rc.cells] using this
   show (x.cells++iW rs)[i * 9+j]?=some u
   cases i with
   | zero =>
     simp only[List.getElem?_cons_zero,Option.some.injEq]at h
     subst h
     rw[List.getElem?_append_left (by rw[hl];omega)]
     simpa using hu
   | succ i =>
     simp only[List.getElem?_cons_succ]at h
     rw[List.getElem?_append_right (by rw[hl];omega),hl]
     have e:(i+1) * 9+j-9=i * 9+j:=by omega
     rw[e]
     exact ih i r j u h hu
theorem MM(rs:List Rc):∀u∈iW rs,u.oneCell'=true:=by
 intro u hu
 obtain⟨r,_,h⟩:=List.mem_flatMap.1 hu
 simp only[Rc.cells,List.mem_cons,List.not_mem_nil,or_false]at h
 rcases h with h|h|h|h|h|h|h|h|h <;> rw[h] <;> rfl
theorem zx:∀(p:Nat) (rs:List Rc),iW (rs.drop p)=(iW rs).drop (p * 9)
 | 0,rs=>by simp
 | p+1,[]=>by simp[iW]
 | p+1,r :: rs=>by
   rw[List.drop_succ_cons,zx p rs]
   show _=(r.cells++iW rs).drop _
   have e:(p+1) * 9=r.cells.length+p * 9:=by
    have:r.cells.length=9:=rfl
    omega
   rw[e,<-List.drop_drop,List.drop_left]
theorem nJ{w:World}{base e size n g cap:Nat}{xs:List Value}(h:w.ownsRow base e size (.slice (some ⟨g,0,none⟩) n cap) n xs){j:Nat}{u:Value}(hj:xs[j]?=some u):(w.setCell ⟨g,j,none⟩ u).ownsRow base e size (.slice (some ⟨g,0,none⟩) n cap) n xs:=by
 have:=(h.stored j u).1
 have e:xs.set j u=xs:=by
  obtain⟨hl,e⟩:=List.getElem?_eq_some_iff.1 hj
  rw[<-e];exact List.set_getElem_self hl
 rw[e]at this
 exact this
theorem Rw(bv bm bo p:Nat)(fr:Int)(G:Lg)(lm:Lm)(w:World)(hL:bu w bv bm bo G lm)(hty:YZ G)(hlen:G.tp.length<=1000000000)(hp:(fr<=0/\p=0)\/fr=(p:Int)+1)(hp2:p<9223372036854775807) :
 Calls Tryz.prog 17 #[.pointer (some ⟨bv,0,none⟩),.int .i64 fr] w fun e w'=>∃a c,e=.returned (.slice a (G.tp.drop p).length c)/\w'.ownsRow w.heap.size 62 9 (.slice a (G.tp.drop p).length c) (G.tp.drop p).length (iW (G.tp.drop p))/\au aP w w':=by
 obtain⟨n,hn⟩:∃n,G.tp.length=n:=⟨_,rfl⟩
 obtain⟨pa,pc,hpv⟩:=NM hL.aO.iF
 rw[hn]at hpv hlen
 have v3:w.cell? ⟨bv,3,none⟩=some (.slice pa n pc):=by rw[<-hpv];exact hL.dA.cell 3
 have hmax:max fr 1=(p:Int)+1:=by rcases hp with⟨h,rfl⟩|rfl <;> omega
 by_cases hnp:n<=p
 ·have e0:G.tp.drop p=[]:=List.drop_eq_nil_of_le (by omega)
  rw[e0]
  have hgt:decide ((n:Int)<(p:Int)+1)=true:=by simp;omega
  clear hL hpv
  go_enter Tryz.func17,Tryz.ntmps17
  go_wp2
  go_ret
  exact⟨none,0,rfl,World.ownsRow_nil _ _ _ _,au.refl _ _⟩
 ·obtain⟨m,hm⟩:∃m,(G.tp.drop p).length=m:=⟨_,rfl⟩
  have hmn:n=p+m:=by rw[List.length_drop]at hm;omega
  have hm0:0<m:=by omega
  obtain⟨g,rfl⟩:∃g,pa=some ⟨g,0,none⟩:=by
   rcases hL.aO.iF.2 with⟨h,h0⟩|⟨g,cap,cs,h,_⟩
   ·omega
   ·rw[hpv]at h;injection h with h1 _ _;exact⟨g,h1⟩
  have hcell:∀j u,(iW (G.tp.drop p))[j]?=some u->w.cell? (Addr.add ⟨g,p * 9,none⟩ j)=some u:=fun j u hj=>by
   rw[zx,List.getElem?_drop]at hj
   have h:=hL.aO.iF.cells (g:=g) (by rw[hpv];rfl) _ u hj
   have e1:Addr.add ⟨g,0,none⟩ (p * 9+j)=Addr.add ⟨g,p * 9,none⟩ j:=by by_cases h1:j=0 <;> by_cases h2:p=0 <;> simp[Addr.add,h1,h2] <;> omega
   rw[e1]at h
   exact h
  have hpc:n<=pc:=by
   rcases hL.aO.iF.2 with⟨h,h0⟩|⟨g,cap,cs,h,_,_,h2,_⟩
   ·omega
   ·rw[hpv]at h;injection h with _ _ h3;rw[h3];omega
  have HC:=ai (fun (c:Nat)=>Jf g (p * 9) m c (iW (G.tp.drop p)) w hm0 (by omega) (by rw[D6,hm]) hcell (MM _))
  have HX:Hid (∀i,i<m->∃r:Rc,r.t.sym.size<=100000/\∀j u,r.cells[j]?=some u->(iW (G.tp.drop p))[i * 9+j]?=some u):=fun i hi=>by
   have hi':i<(G.tp.drop p).length:=by omega
   exact⟨(G.tp.drop p)[i],hty _ (List.mem_of_mem_drop (List.getElem_mem hi')),fun j u hu=>zu _ i _ j u (List.getElem?_eq_getElem hi') hu⟩
  obtain⟨xs,hxs⟩:∃xs,iW (G.tp.drop p)=xs:=⟨_,rfl⟩
  rw[hm,hxs]
  rw[hxs]at HC HX
  have hgt:decide ((n:Int)<(p:Int)+1)=false:=by simp;omega
  clear hL hpv hcell hxs hm hty hn hp
  go_enter Tryz.func17,Tryz.ntmps17
  go_wp2_with fail
  refine (ae HC _).mono ?_
  rintro e w2 ⟨g',cap',rfl,hrow,k2⟩
  go_wp2
  go_loopg [6,7,27] m (fun k _ _ iv wr=>∃i:Nat,iv=.int .i64 (i:Int)/\i<=m/\k=m-i/\wr.ownsRow w.heap.size 62 9 (.slice (some ⟨g',0,none⟩) m cap') m xs/\au aP w wr)
  case atStart=>exact⟨0,rfl,Nat.zero_le _,rfl,hrow,k2⟩
  case round =>
   clear hrow k2
   obtain⟨i,rfl,hi,hgk,hrow,kr⟩:=hrel
   by_cases hlt:i<m
   ·obtain⟨r,hsz,hx⟩:=ae HX i hlt
    have hc:∀j u,r.cells[j]?=some u->wr.cell? ⟨g',i * 9+j,none⟩=some u:=fun j u hu=>by
     have h9:j<9:=by have:=(List.getElem?_eq_some_iff.1 hu).1;simpa [Rc.cells] using this
     rw[hrow.cellAt _ (by omega)];exact hx j u hu
    have c0:wr.cell? ⟨g',i * 9,none⟩=some (.int .i64 r.num):=hc 0 _ rfl
    have c1:wr.cell? ⟨g',i * 9+1,none⟩=some (.int .i64 r.kind):=hc 1 _ rfl
    have c2:wr.cell? ⟨g',i * 9+2,none⟩=some (.int .i64 r.t.num):=hc 2 _ rfl
    have c3:wr.cell? ⟨g',i * 9+3,none⟩=some (.string r.t.sym):=hc 3 _ rfl
    have c4:wr.cell? ⟨g',i * 9+4,none⟩=some (.int .i64 r.t.af):=hc 4 _ rfl
    have c5:wr.cell? ⟨g',i * 9+5,none⟩=some (.int .i64 r.t.aI):=hc 5 _ rfl
    have c6:wr.cell? ⟨g',i * 9+6,none⟩=some (.int .i64 r.t.kZ):=hc 6 _ rfl
    have c7:wr.cell? ⟨g',i * 9+7,none⟩=some (.int .i64 r.t.fM):=hc 7 _ rfl
    have c8:wr.cell? ⟨g',i * 9+8,none⟩=some (.int .i64 r.t.day):=hc 8 _ rfl
    have HH:Hid (∀W,Calls Tryz.prog 43 #[.agg #[.int .i64 r.t.num,.string r.t.sym,.int .i64 r.t.af,.int .i64 r.t.aI,.int .i64 r.t.kZ,.int .i64 r.t.fM,.int .i64 r.t.day]] W fun e w'=>e=.returned r.t.val/\au aP W w'):=fun W=>uh r.t W hsz
    have IQ:=ai hrow
    have HK:=ai kr
    have HXI:=ai hx
    clear hrow kr hc hx
    go_wp2_with fail
    refine (ae HH _).mono ?_
    rintro e w3 ⟨rfl,k3⟩
    have KY:au aP wr w3:=au.trans (by repeat (first|exact au.refl _ _|refine au.setCell ?_ _ _|refine au.alloc ?_ _)) k3
    have row3:=aG (ae IQ) KY (fun _ _ x=>x)
    have hc3:∀j u,r.cells[j]?=some u->w3.cell? ⟨g',i * 9+j,none⟩=some u:=fun j u hu=>by
     have h9:j<9:=by have:=(List.getElem?_eq_some_iff.1 hu).1;simpa [Rc.cells] using this
     rw[row3.cellAt _ (by omega)];exact ae HXI j u hu
    have d2:w3.cell? ⟨g',i * 9+2,none⟩=some (.int .i64 r.t.num):=hc3 2 _ rfl
    have d3:w3.cell? ⟨g',i * 9+3,none⟩=some (.string r.t.sym):=hc3 3 _ rfl
    have d4:w3.cell? ⟨g',i * 9+4,none⟩=some (.int .i64 r.t.af):=hc3 4 _ rfl
    have d5:w3.cell? ⟨g',i * 9+5,none⟩=some (.int .i64 r.t.aI):=hc3 5 _ rfl
    have d6:w3.cell? ⟨g',i * 9+6,none⟩=some (.int .i64 r.t.kZ):=hc3 6 _ rfl
    have d7:w3.cell? ⟨g',i * 9+7,none⟩=some (.int .i64 r.t.fM):=hc3 7 _ rfl
    have d8:w3.cell? ⟨g',i * 9+8,none⟩=some (.int .i64 r.t.day):=hc3 8 _ rfl
    have f2:=row3.frozenAt (i * 9+2)
    have f3:=row3.frozenAt (i * 9+3)
    have f4:=row3.frozenAt (i * 9+4)
    have f5:=row3.frozenAt (i * 9+5)
    have f6:=row3.frozenAt (i * 9+6)
    have f7:=row3.frozenAt (i * 9+7)
    have f8:=row3.frozenAt (i * 9+8)
    have hgb:=rM row3 (k:=g') rfl
    have HR3:=ai row3
    have LP:=ai ((ae HK).trans KY)
    clear row3 hc3 k3 KY c0 c1 c2 c3 c4 c5 c6 c7 c8
    simp only[Tr.val]
    go_wp2
    go_roundg (m-(i+1))
    case measure=>omega
    case rel =>
     have hx:=ae HXI
     refine⟨i+1,by push_cast;rfl,by omega,rfl,?_,?_⟩
     ·exact nJ (nJ (nJ (nJ (nJ (nJ (nJ (ae HR3) (hx 2 _ rfl)) (hx 3 _ rfl)) (hx 4 _ rfl)) (hx 5 _ rfl)) (hx 6 _ rfl)) (hx 7 _ rfl)) (hx 8 _ rfl)
     ·exact (((((((ae LP).setCell (p:=⟨g',i * 9+2,none⟩) (.inr hgb) _).setCell (p:=⟨g',i * 9+3,none⟩) (.inr hgb) _).setCell (p:=⟨g',i * 9+4,none⟩) (.inr hgb) _).setCell (p:=⟨g',i * 9+5,none⟩) (.inr hgb) _).setCell (p:=⟨g',i * 9+6,none⟩) (.inr hgb) _).setCell (p:=⟨g',i * 9+7,none⟩) (.inr hgb) _).setCell (p:=⟨g',i * 9+8,none⟩) (.inr hgb) _
   ·obtain rfl:i=m:=by omega
    go_wp2
    go_ret
    exact⟨_,_,rfl,hrow,kr⟩
theorem aab(w:World):Calls Tryz.prog 34 #[] w fun e w'=>∃x,e=.returned (.pointer (some ⟨x.bv,0,none⟩))/\nN w' x/\au aP w w'/\(∀b,KF x b->w.heap.size<=b)/\x.H=[]/\x.N=0:=by
 refine (Ux w).mono ?_
 rintro e w' ⟨bv,bm,bo,rfl,R,k,h1,h2,h3⟩
 have nl:∀x,¬VL l7 x:=fun x hx=>by obtain⟨id,h⟩:=hx;simp[l7]at h
 have lu:di (fun _=>0) l7 (pz []) 0:=by
  refine⟨⟨fun i hi=>absurd hi (Nat.not_lt_zero i),fun i j hi=>absurd hi (Nat.not_lt_zero i),fun x hx=>absurd hx (nl x),fun x hx=>absurd hx (nl x),fun x hx=>absurd hx (nl x)⟩,rfl,fun i hi=>absurd hi (Nat.not_lt_zero i),rfl,fun k hk=>absurd hk (Nat.not_lt_zero k),fun id b h=>by simp[l7]at h,fun a b ha=>absurd ha (Nat.not_lt_zero a),fun k hk=>absurd hk (Nat.not_lt_zero k),fun a b ha=>absurd ha (Nat.not_lt_zero a),fun a b ha=>absurd ha (Nat.not_lt_zero a),fun k hk=>absurd hk (Nat.not_lt_zero k),fun k hk=>absurd hk (Nat.not_lt_zero k),fun i hi=>absurd hi (Nat.not_lt_zero i),⟨Int.le_refl _,by decide⟩,rfl,rfl,Nat.le_refl _,Nat.le_refl _,Nat.le_refl _,Nat.zero_le _,Nat.zero_le _,fun k hk=>absurd hk (Nat.not_lt_zero k)⟩
 have sz:uB l7:=⟨fun i hi=>absurd hi (Nat.not_lt_zero i),⟨fun t ht=>by simp[l7,held]at ht,fun id b h=>by simp[l7]at h,fun id b h=>by simp[l7]at h⟩,fun x hx=>by simp[l7]at hx,by show oD [];exact oD.nil,fun k x hx=>by simp[l7]at hx,by show (-9223372036854775808:Int)<=l7.lg.day/\l7.lg.day<9223372036854775808;decide⟩
 refine⟨⟨bv,bm,bo,l7,fun _=>0,0,[]⟩,rfl,⟨R,lu,sz,ou.nil ⟨l7,fun _=>0,0,lu,Nat.le_refl _,sz,dK.refl _,Nat.le_refl _,fun H' n S e=>by simp at e⟩,⟨fun y hy=>by simp at hy,rfl,fun y hy=>by simp at hy⟩,Told.start,Nat.le_refl _⟩,k,?_,rfl,rfl⟩
 rintro b (hf|⟨y,hy,_⟩)
 ·rcases hf with h|h|h|⟨i,hi,_⟩|⟨id,h⟩|h
  ·rw[h];exact h1
  ·rw[h];exact h2
  ·rw[h];exact h3
  ·exact absurd hi (Nat.not_lt_zero i)
  ·simp[l7]at h
  ·simp[l7,Lm.F,gy,Value.ownBlock]at h
 ·simp at hy
def oS(S:RS)(j:Nat):Ord:=ax S.l ((jX S.l ((j:Int)+1)).getD 0)
theorem Qh{x:Kx}{n:Nat}{w:World}(h:nN w x)(hn:Kn x.S n){j:Nat}(hj:j<n)(hn2:n<=1000):Calls Tryz.prog 26 #[.pointer (some ⟨x.bv,0,none⟩),.int .i64 ((j:Int)+1)] w fun e w'=>e=.returned (.tuple #[.agg (kC (oS x.S j)),.int .i64 0])/\au aP w w':=by
 have hf:=h.lu.found ((j:Int)+1)
 have hs:=(hn.sK ((j:Int)+1)).2 (by omega)
 unfold oS
 cases hx:jX x.S.l ((j:Int)+1) with
 | none=>rw[hx]at hs;simp at hs
 | some i =>
   rw[hx]at hf
   have hi:=(vS hx).1
   obtain⟨e1,e2,e3,e4,e5,e6,e7,e8,e9,e10,e11,e12⟩:=fE (h.lu.same i hi)
   have hst:kC (x.V.om (x.p i))=kC (ax x.S.l i):=by simp only[kC,e1,e2,e3,e4,e5,e6,e7,e8,e9,e10,e11,e12]
   show Calls _ _ _ _ fun e w'=>e=.returned (.tuple #[.agg (kC (ax x.S.l i)),.int .i64 0])/\au aP w w'
   rw[<-hst]
   refine Ik x.bv x.bm x.bo (x.p i) x.V _ w h.jE (WalkArith.wf_i64 (by omega)) hf ?_
   obtain⟨a,ha,e⟩:=h.lu.gw.sym (x.p i) ⟨_,hf⟩
   rw[e]
   have:=h.sz.sz a ha
   omega
theorem um{x:Kx}{w:World}(h:nN w x){id:Int}(hwf:(Lit.int .i64 id).wf=true)(h0:jX x.S.l id=none):Calls Tryz.prog 26 #[.pointer (some ⟨x.bv,0,none⟩),.int .i64 id] w fun e w'=>e=.returned (.tuple #[.agg jD,.int .i64 6])/\au aP w w' :=
 Ij x.bv x.bm x.bo x.V id w h.jE hwf (by rw[h.lu.found,h0];rfl)
def yO(S:RS)(n₀:Nat)(wr:World)(k:Nat)(v:Value):Prop :=
 ∃ls,yP S (EP (k / 2)) ((k % 2:Nat):Int) ls 0/\mZ n₀ wr v ls
theorem mZ.aC{n₀:Nat}{w w':World}{v:Value}{ls:List jM}(h:mZ n₀ w v ls){S:Nat->Prop}(k:au S w w')(hS:∀b c,az w b c 93->¬S b):mZ n₀ w' v ls:=by
 rcases h with h|⟨g,cap,cs,e,h1,h2,h3⟩
 ·exact .inl h
 ·exact .inr ⟨g,cap,cs,e,h1,k.aB h2 (hS g cs h2),h3⟩
theorem mZ.form{n₀:Nat}{w:World}{v:Value}{ls:List jM}(h:mZ n₀ w v ls):∃va vc,v=.slice va ls.length vc:=by
 rcases h with⟨h,h0⟩|⟨g,cap,cs,e,_⟩
 ·exact⟨none,0,by rw[h,h0];rfl⟩
 ·exact⟨_,cap,e⟩
theorem XE{x:Kx}{n k n₀:Nat}{w:World}(h:nN w x)(hN:x.N<2000000)(hn:Kn x.S n)(hk:k<4)(hn₀:n₀<=w.heap.size):Calls Tryz.prog 25 #[.pointer (some ⟨x.bv,0,none⟩),.string (EP (k / 2)),.int .i64 ((k % 2:Nat):Int)] w fun e w'=>∃va m vc,e=.returned (.tuple #[.slice va m vc,.int .i64 0])/\yO x.S n₀ w' k (.slice va m vc)/\au aP w w':=by
 have hs3:k % 2<2:=by omega
 have hx:kN x.S.sy (EP (k / 2))=true:=by
  unfold EP
  split
  ·exact hn.sA
  ·exact hn.sG
 obtain⟨i,hi,hi2⟩:=(h.lu.fV _).1 hx
 have hb:=Tz x.bv x.bm x.bo i (k % 2) x.V w h.jE hi hs3 (by have:=h.sz.sz i hi;unfold maxLen;omega) (fun j hj=>(h.lu.gw.gb i hi).side hs3 hj)
 rw[hi2]at hb
 refine hb.mono ?_
 rintro e w' ⟨v,rfl,ys,hy,hlv,hb⟩
 obtain⟨b1,b2⟩:=h.lu.aW (by omega) hi hs3 hy
 rw[hi2]at b1
 obtain⟨va,vc,rfl⟩:=hlv.form
 exact⟨va,_,vc,rfl,⟨_,.inr (.inr ⟨rfl,hx,by omega,b1,b2⟩),hlv.base hn₀⟩,au.rF hb⟩
theorem zI{x:Kx}{w:World}(h:nN w x)(s:ByteArray)(side:Int)(hs:s.size<=100)(h0:kN x.S.sy s=false):Calls Tryz.prog 25 #[.pointer (some ⟨x.bv,0,none⟩),.string s,.int .i64 side] w fun e w'=>e=.returned (.tuple #[.slice none 0 0,.int .i64 6])/\au aP w w' :=
 DV x.bv x.bm x.bo x.V s side w h.jE (by unfold maxLen;omega) (fun i hi e=>by rw[(h.lu.fV _).2 ⟨i,hi,e⟩]at h0;exact absurd h0 (by decide))
theorem mY.det{l:List Ord}{sym:ByteArray}{s:Int}:∀{q q':Nat} {out a b:List jM},mY l sym s q out a->mY l sym s q' out b->a=b:=by
 intro q
 induction q with
 | zero =>
   intro q' out a b h h'
   rcases h.inv with⟨e,h0⟩|⟨f,e,_⟩
   ·rcases h'.inv with⟨e',_⟩|⟨f',_,h1,_⟩
    ·rw[e,e']
    ·exact absurd h0 h1
   ·omega
 | succ q ih =>
   intro q' out a b h h'
   rcases h.inv with⟨e,h0⟩|⟨f,e,h0,h2⟩
   ·rcases h'.inv with⟨e',_⟩|⟨f',_,h1,_⟩
    ·rw[e,e']
    ·exact absurd h0 h1
   ·rcases h'.inv with⟨_,h1⟩|⟨f',_,_,h3⟩
    ·exact absurd h1 h0
    ·obtain rfl:f=q:=by omega
     exact ih h2 h3
theorem yP.det{S:RS}{sym:ByteArray}{side:Int}{a b:List jM}(h:yP S sym side a 0)(h':yP S sym side b 0):a=b:=by
 rcases h with⟨e,_⟩|⟨e,_⟩|⟨_,_,_,h,_⟩
 ·exact absurd e (by decide)
 ·exact absurd e (by decide)
 ·rcases h' with⟨e,_⟩|⟨e,_⟩|⟨_,_,_,h',_⟩
  ·exact absurd e (by decide)
  ·exact absurd e (by decide)
  ·exact h.det h'
def oh(o:Ord):List Value:=[.int .i64 o.id,.int .i64 o.aA,.string o.sym,.int .i64 o.side,.int .i64 o.kind,.int .i64 o.af,.int .i64 o.aI,.int .i64 o.entered,.int .i64 o.aK,.int .i64 o.filled,.int .i64 o.bQ,.int .i64 o.exp]
def uf(os:List Ord):List Value:=os.flatMap oh
def ED(S:RS)(n:Nat):List Ord:=(List.range n).map (fun j=>oS S j)
theorem NH(S:RS)(n:Nat):ED S (n+1)=ED S n++[oS S n]:=by simp[ED,List.range_succ]
theorem Jk(os:List Ord)(o:Ord):uf (os++[o])=uf os++oh o:=by simp[uf,List.flatMap_append]
theorem Xw:(Tryz.prog.info? 54).map (fun i=>(i.zero.map (fun z=>z.cells.size),i.size,i.bytes))=some (some 12,12,104):=by kernel_rfl
theorem Ea:∃i z,Tryz.prog.info? 54=some i/\i.zero=some z/\i.size=12/\i.bytes=104/\z.cells.size=12:=by
 have h:=Xw
 cases hi:Tryz.prog.info? 54 with
 | none=>rw[hi]at h;simp at h
 | some i =>
   rw[hi]at h
   simp at h
   obtain⟨⟨z,hz,hs⟩,h2,h3⟩:=h
   exact⟨i,z,rfl,hz,h2,h3,hs⟩
theorem Xy:(Tryz.prog.info? 63).map (fun i=>(i.zero,i.size,i.bytes))=some (some (.slice none 0 0),1,24):=by kernel_rfl
theorem mG:∃i,Tryz.prog.info? 63=some i/\i.zero=some (.slice none 0 0)/\i.size=1/\i.bytes=24:=by
 have h:=Xy
 cases hi:Tryz.prog.info? 63 with
 | none=>rw[hi]at h;simp at h
 | some i=>rw[hi]at h;simp at h;exact⟨i,rfl,h.1,h.2.1,h.2.2⟩
theorem XN(w:World)(o:Ord):∀j u,(oh o)[j]?=some u->(w.alloc (.cells (kC o) 54)).cell? (Addr.add ⟨w.heap.size,0,none⟩ j)=some u:=by
 intro j u hj
 exact World.news_of_block (az.new w (kC o) 54) j u hj
theorem eF{w:World}{base e size m:Nat}{v:Value}{xs:List Value}(h:w.ownsRow base e size v m xs):∃va vc,v=.slice va m vc:=by
 rcases h.2 with⟨h,h0⟩|⟨g,cap,cs,h,_⟩
 ·exact⟨none,0,by rw[h,h0]⟩
 ·exact⟨_,cap,h⟩
def RZ:Array Value:=#[.slice none 0 0,.slice none 0 0,.slice none 0 0]
structure Lk(S:RS)(i:Nat)(w:World)(wr:World)(ov:Value):Prop where
 row:wr.ownsRow w.heap.size 54 12 ov i (uf (ED S i))
 out:az wr (w.heap.size+1) #[ov,.slice none 0 0,.slice none 0 0] 47
 res:az wr w.heap.size RZ 47
 oJ:au aP w wr
structure YW(S:RS)(n j:Nat)(w:World)(wr:World)(ov kv:Value)(vs:List Value):Prop where
 row:wr.ownsRow w.heap.size 54 12 ov n (uf (ED S n))
 wS:wr.ownsRow w.heap.size 63 1 kv j vs
 Za:∀k v,vs[k]?=some v->yO S w.heap.size wr k v
 out:az wr (w.heap.size+1) #[ov,kv,.slice none 0 0] 47
 res:az wr w.heap.size RZ 47
 oJ:au aP w wr
theorem Eu(w:World)(v:Value)(t:TypeId):∀j u,([v]:List Value)[j]?=some u->(w.alloc (.cells #[v] t)).cell? (Addr.add ⟨w.heap.size,0,none⟩ j)=some u:=by
 intro j u hj
 exact World.news_of_block (az.new w #[v] t) j u hj
theorem vM{S:RS}{n j:Nat}{w wr w2:World}{ov kv:Value}{vs:List Value}{v:Value}(h:YW S n j w wr ov kv vs)(kk:au aP wr w2)(hb:yO S w.heap.size w2 j v){j':Nat}(hj':j'=j+1) :
 ∀(o:Obj) (w4:World) (g' cap':Nat),w4.ownsRow w.heap.size 63 1 (.slice (some ⟨g',0,none⟩) j' cap') j' (vs++[v])->(w2.alloc o).grownBy w4 kv.ownBlock->YW S n j' w (w4.setCell ⟨w.heap.size+1,1,none⟩ (.slice (some ⟨g',0,none⟩) j' cap')) ov (.slice (some ⟨g',0,none⟩) j' cap') (vs++[v]):=by
 intro o w4 g' cap' hown hgrow
 have qy:=kk.aB h.out (fun x=>x)
 have qK:=kk.aB h.res (fun x=>x)
 have J3:=aG h.row kk (fun _ _ x=>x)
 have FH:=aG h.wS kk (fun _ _ x=>x)
 have k4:au (fun b=>kv.ownBlock=some b) w2 w4:=((au.refl (fun b=>kv.ownBlock=some b) w2).alloc o).grown hgrow (fun k e=>.inl e)
 have b4:=k4.aB qy (fun e=>bV FH e qy (by decide) rfl)
 have r4:=k4.aB qK (fun e=>bV FH e qK (by decide) rfl)
 have k5:au (fun b=>b=w.heap.size+1) w4 (w4.setCell ⟨w.heap.size+1,1,none⟩ (.slice (some ⟨g',0,none⟩) j' cap')):=(au.refl (fun b=>b=w.heap.size+1) w4).setCell (p:=⟨w.heap.size+1,1,none⟩) (.inl rfl) _
 have hlen:vs.length=j:=by have:=h.wS.1;omega
 have lev:∀{x ls},mZ w.heap.size w2 x ls->mZ w.heap.size (w4.setCell ⟨w.heap.size+1,1,none⟩ (.slice (some ⟨g',0,none⟩) j' cap')) x ls:=fun hl =>
  (hl.aC k4 (fun b c hb e=>bV FH e hb (by decide) rfl)).aC k5 (fun b c hb e=>by rw[e]at hb;exact az.ne hb b4 (by decide) rfl)
 refine⟨?_,aG hown k5 (fun b hb e=>bV hown hb b4 (by decide) e),fun k x hx=>?_,b4.set 1 _,k5.aB r4 (by omega),?_⟩
 ·refine aG (aG J3 k4 (fun b hb e=>?_)) k5 (fun b hb e=>?_)
  ·obtain⟨cs,hc⟩:=bF J3 hb
   exact bV FH e hc (by decide) rfl
  ·obtain⟨cs,hc⟩:=bF J3 hb
   rw[e]at hc
   exact az.ne hc qy (by decide) rfl
 ·by_cases e:k<vs.length
  ·rw[List.getElem?_append_left e]at hx
   obtain⟨ys,hy,hl⟩:=h.Za k x hx
   exact⟨ys,hy,lev (hl.aC kk (fun _ _ _ x=>x))⟩
  ·rw[List.getElem?_append_right (by omega)]at hx
   have e0:k-vs.length=0:=by
    rcases Nat.eq_zero_or_pos (k-vs.length) with e0|e0
    ·exact e0
    ·rw[List.getElem?_eq_none (by simp;omega)]at hx;simp at hx
   rw[e0]at hx
   simp at hx
   subst hx
   obtain rfl:k=j:=by omega
   obtain⟨ys,hy,hl⟩:=hb
   exact⟨ys,hy,lev hl⟩
 ·refine ((h.oJ.trans kk).from (k4.mono (fun b e=>.inr (rM FH e)))).from (k5.mono (fun b e=>.inr (by omega)))
theorem aap(tmps:Array Value)(H:Nat)(w:World)(a b c:Value)(ht:tmps.getD 2 undef=.pointer (some ⟨H,0,none⟩))(hu:tmps.getD 3 undef=.bool true)(hb:az w H #[a,b,c] 47) :
 (results Tryz.f21 tmps).run Tryz.prog w=.ok (.tuple #[.agg #[a,b,c],.bool true]) w:=by
 have c0:w.cell? ⟨H,0,none⟩=some a:=hb.cell 0
 have c1:w.cell? ⟨H,1,none⟩=some b:=hb.cell 1
 have c2:w.cell? ⟨H,2,none⟩=some c:=hb.cell 2
 simp only[Array.getD_eq_getD_getElem?]at ht hu
 simp[results,Tryz.results21,go_sem,ht,hu,c0,c1,c2]
theorem Uo{S:RS}{n j:Nat}{w wr w2:World}{ov kv:Value}{vs:List Value}(h:YW S n j w wr ov kv vs)(kk:au aP wr w2)(t a b c d:Value) :
 (((((w2.setCell ⟨w.heap.size+1,2,none⟩ t).setCell ⟨w.heap.size,0,none⟩ a).setCell ⟨w.heap.size,1,none⟩ b).setCell ⟨w.heap.size,2,none⟩ c)).ownsRow w.heap.size 54 12 ov n (uf (ED S n))/\(((((w2.setCell ⟨w.heap.size+1,2,none⟩ t).setCell ⟨w.heap.size,0,none⟩ a).setCell ⟨w.heap.size,1,none⟩ b).setCell ⟨w.heap.size,2,none⟩ c)).ownsRow w.heap.size 63 1 kv j vs /\
   (∀k v,vs[k]?=some v->yO S w.heap.size (((((w2.setCell ⟨w.heap.size+1,2,none⟩ t).setCell ⟨w.heap.size,0,none⟩ a).setCell ⟨w.heap.size,1,none⟩ b).setCell ⟨w.heap.size,2,none⟩ c)) k v)/\au aP w (((((w2.setCell ⟨w.heap.size+1,2,none⟩ t).setCell ⟨w.heap.size,0,none⟩ a).setCell ⟨w.heap.size,1,none⟩ b).setCell ⟨w.heap.size,2,none⟩ c)):=by
 have qy:=kk.aB h.out (fun x=>x)
 have qK:=kk.aB h.res (fun x=>x)
 have k5:au (fun x=>x=w.heap.size+1\/x=w.heap.size) w2 ((((w2.setCell ⟨w.heap.size+1,2,none⟩ t).setCell ⟨w.heap.size,0,none⟩ a).setCell ⟨w.heap.size,1,none⟩ b).setCell ⟨w.heap.size,2,none⟩ c) :=
  ((((au.refl _ w2).setCell (p:=⟨w.heap.size+1,2,none⟩) (.inl (.inl rfl)) _).setCell (p:=⟨w.heap.size,0,none⟩) (.inl (.inr rfl)) _).setCell (p:=⟨w.heap.size,1,none⟩) (.inl (.inr rfl)) _).setCell (p:=⟨w.heap.size,2,none⟩) (.inl (.inr rfl)) _
 have no:∀{x c t},az w2 x c t->t≠47->¬(x=w.heap.size+1\/x=w.heap.size):=by
  rintro x c t hb ht (e|e)
  ·rw[e]at hb;exact az.ne hb qy ht rfl
  ·rw[e]at hb;exact az.ne hb qK ht rfl
 refine⟨aG (aG h.row kk (fun _ _ x=>x)) k5 (fun b hb=>?_),aG (aG h.wS kk (fun _ _ x=>x)) k5 (fun b hb=>?_),fun k v hv=>?_,?_⟩
 ·obtain⟨cs,hc⟩:=bF (aG h.row kk (fun _ _ x=>x)) hb
  exact no hc (by decide)
 ·obtain⟨cs,hc⟩:=bF (aG h.wS kk (fun _ _ x=>x)) hb
  exact no hc (by decide)
 ·obtain⟨ys,hy,hl⟩:=h.Za k v hv
  exact⟨ys,hy,(hl.aC kk (fun _ _ _ x=>x)).aC k5 (fun b c hb=>no hb (by decide))⟩
 ·exact (h.oJ.trans kk).from (k5.mono (fun x e=>.inr (by rcases e with e|e <;> omega)))
theorem xA{w:World}{base base' e size n:Nat}{v:Value}{xs:List Value}(h:w.ownsRow base e size v n xs)(hb:base'<=base):w.ownsRow base' e size v n xs:=by
 refine⟨h.1,?_⟩
 rcases h.2 with h|⟨g,cap,cs,e,h1,h2⟩
 ·exact .inl h
 ·exact .inr ⟨g,cap,cs,e,Nat.le_trans hb h1,h2⟩
theorem XJ{S:RS}{n j m:Nat}{w wr w2:World}{ov kv tv:Value}{vs xs:List Value}(h:YW S n j w wr ov kv vs)(kk:au aP wr w2)(hr:w2.ownsRow wr.heap.size 56 7 tv m xs)(t a b c:Value) :
 (((((w2.setCell ⟨w.heap.size+1,2,none⟩ t).setCell ⟨w.heap.size,0,none⟩ a).setCell ⟨w.heap.size,1,none⟩ b).setCell ⟨w.heap.size,2,none⟩ c)).ownsRow w.heap.size 56 7 tv m xs:=by
 have qy:=kk.aB h.out (fun x=>x)
 have qK:=kk.aB h.res (fun x=>x)
 have k5:au (fun x=>x=w.heap.size+1\/x=w.heap.size) w2 ((((w2.setCell ⟨w.heap.size+1,2,none⟩ t).setCell ⟨w.heap.size,0,none⟩ a).setCell ⟨w.heap.size,1,none⟩ b).setCell ⟨w.heap.size,2,none⟩ c) :=
  ((((au.refl _ w2).setCell (p:=⟨w.heap.size+1,2,none⟩) (.inl (.inl rfl)) _).setCell (p:=⟨w.heap.size,0,none⟩) (.inl (.inr rfl)) _).setCell (p:=⟨w.heap.size,1,none⟩) (.inl (.inr rfl)) _).setCell (p:=⟨w.heap.size,2,none⟩) (.inl (.inr rfl)) _
 have hr':w2.ownsRow w.heap.size 56 7 tv m xs:=xA hr h.oJ.size
 refine aG hr' k5 (fun b hb=>?_)
 obtain⟨cs,hc⟩:=bF hr' hb
 rintro (e|e)
 ·rw[e]at hc;exact az.ne hc qy (by decide) rfl
 ·rw[e]at hc;exact az.ne hc qK (by decide) rfl
theorem Nw(x:Kx)(bv P n:Nat)(S:RS)(acts:Int)(w:World)(hx:nN w x)(hbv:x.bv=bv)(hS:x.S=S)(hkn:Kn S n)(hN:x.N<2000000)(hn:n<=200)(hP:az w P #[.pointer (some ⟨bv,0,none⟩),.int .i64 n,.int .i64 acts] 37) :
 Calls Tryz.prog 21 #[.pointer (some ⟨P,0,none⟩)] w fun e w'=>∃oa oc ka kc ta tc vs,e=.returned (.tuple #[.agg #[.slice oa n oc,.slice ka 4 kc,.slice ta (iK S.t).length tc],.bool true])/\w'.ownsRow w.heap.size 56 7 (.slice ta (iK S.t).length tc) (iK S.t).length (dR (iK S.t))/\w'.ownsRow w.heap.size 54 12 (.slice oa n oc) n (uf (ED S n))/\w'.ownsRow w.heap.size 63 1 (.slice ka 4 kc) 4 vs/\(∀k v,vs[k]?=some v->yO S w.heap.size w' k v)/\au aP w w':=by
 obtain⟨tn,htn⟩:∃tn,(iK S.t).length=tn:=⟨_,rfl⟩
 obtain⟨xt,hxt⟩:∃xt,dR (iK S.t)=xt:=⟨_,rfl⟩
 have HTA:Hid (∀W,au aP w W->Calls Tryz.prog 20 #[.pointer (some ⟨bv,0,none⟩)] W fun e w'=>∃a c,e=.returned (.slice a tn c)/\w'.ownsRow W.heap.size 56 7 (.slice a tn c) tn xt/\au aP W w'):=fun W k=>by
  have:=Bv x.bv x.bm x.bo x.V.lg x.V.lm W (hx.aH k).jE.aO hx.sz.sy (by have:=hx.lu.uV;omega)
  rw[hx.lu.tr,hS,hbv]at this
  rw[htn,hxt]at this
  exact this
 rw[htn,hxt]
 clear htn hxt
 have Vf:Hid (∀(W:World) (k:au aP w W) (j:Nat) (hj:j<n),Calls Tryz.prog 26 #[.pointer (some ⟨bv,0,none⟩),.int .i64 ((j:Int)+1)] W fun e w'=>e=.returned (.tuple #[.agg (kC (oS S j)),.int .i64 0])/\au aP W w'):=fun W k j hj=>by
  have:=Qh (hx.aH k) (n:=n) (by rw[hS];exact hkn) hj (by omega)
  rw[hbv,hS]at this
  exact this
 have HBk:Hid (∀(W:World) (k:au aP w W) (j:Nat) (hj:j<4),Calls Tryz.prog 25 #[.pointer (some ⟨bv,0,none⟩),.string (EP (j / 2)),.int .i64 ((j % 2:Nat):Int)] W fun e w'=>∃va m vc,e=.returned (.tuple #[.slice va m vc,.int .i64 0])/\yO S w.heap.size w' j (.slice va m vc)/\au aP W w'):=fun W k j hj=>by
  have:=XE (n:=n) (hx.aH k) hN (by rw[hS];exact hkn) hj k.size
  rw[hbv,hS]at this
  exact this
 have lP:=hP.lt
 have HPb:=ai hP
 clear hx hP hS hbv hkn hN
 go_enter Tryz.func21,Tryz.ntmps21
 go_wp2
 go_loopg [5,6,7] n (fun k idv _ _ wr=>∃(i:Nat) (ov:Value),idv=.int .i64 ((i:Int)+1)/\i<=n/\k=n-i/\Lk S i w wr ov)
 case atStart =>
  refine⟨0,.slice none 0 0,rfl,Nat.zero_le _,rfl,World.ownsRow_nil _ _ _ _,?_,?_,?_⟩
  ·exact az.xy w _ _ _
  ·exact (az.new w _ _).alloc _
  ·exact ((au.refl aP w).alloc _).alloc _
 case round =>
  obtain⟨i,ov,rfl,hi,hgk,lk⟩:=hrel
  have hPr:=lk.oJ.aB (ae HPb) (fun x=>x)
  have p1:wr.cell? ⟨P,1,none⟩=some (.int .i64 (n:Int)):=hPr.cell 1
  have p0:wr.cell? ⟨P,0,none⟩=some (.pointer (some ⟨bv,0,none⟩)):=hPr.cell 0
  by_cases hlt:i<n
  ·have hS:=ai (ae Vf wr lk.oJ i hlt)
   obtain⟨va,vc,rfl⟩:=eF lk.row
   have e1:decide ((i:Int)+1<=(n:Int))=true:=by simp;omega
   have HL:=ai lk
   clear lk hPr
   go_wp2_with fail
   refine (ae hS).mono ?_
   rintro e w2 ⟨rfl,k2⟩
   have J3:=aG (ae HL).row k2 (fun _ _ x=>x)
   have qy:=k2.aB (ae HL).out (fun x=>x)
   have qK:=k2.aB (ae HL).res (fun x=>x)
   have XG:=(ae HL).oJ.trans k2
   have lt1:w.heap.size+1<w2.heap.size:=qy.lt
   have o2:w2.cell? ⟨w.heap.size+1,0,none⟩=some (.slice va i vc):=qy.cell 0
   have hmx:i+1<=maxLen:=by unfold maxLen;omega
   have tC:(i+1) * 104<=140737488355328:=by omega
   obtain⟨i0,z0,hi0,hz0,hz1,hz2,hz3⟩:=Ea
   have hone:∀u∈oh (oS S i),u.oneCell'=true:=by simp[oh,Value.oneCell']
   have hnews:∀j u,(oh (oS S i))[j]?=some u->((w2.alloc (.cells (kC (oS S i)) 54)).alloc (.cells (kC (oS S i)) 54)).cell? (Addr.add ⟨w2.heap.size+1,0,none⟩ j)=some u:=by
    intro j u hj
    have:=XN (w2.alloc (.cells (kC (oS S i)) 54)) (oS S i) j u hj
    have e:(w2.alloc (.cells (kC (oS S i)) 54)).heap.size=w2.heap.size+1:=by simp
    rw[e]at this
    exact this
   have row3:=(J3.alloc (.cells (kC (oS S i)) 54)).alloc (.cells (kC (oS S i)) 54)
   have HR3:=ai row3
   have EY:=ai hnews
   have KD:=ai qy
   have Ve:=ai qK
   have yS:=ai XG
   have OI:=ai J3
   clear J3 qy qK XG row3 hnews k2 p1 p0 hS HL
   have hne5:∀(W:World) (v:Value) (c:Array Value) (xs:List Value) (m:Nat),W.ownsRow w.heap.size 54 12 v m xs->az W (w.heap.size+1) c 47->v.ownBlock≠some (w.heap.size+1):=fun W v c xs m hr hb e=>bV hr e hb (by decide) rfl
   have HNE:=ai hne5
   clear hne5
   simp only[kC]at HR3 EY ⊢
   go_wp2_with (at_builtin;refine wpList_append_own _ rfl _ _ 44 rfl w.heap.size 54 i0 z0 12 104 Tryz.underlying44 hi0 hz0 hz1 hz2 hz3 (by decide) _ i _ rfl (ae HR3) ⟨w2.heap.size+1,0,none⟩ 1 1 (oh (oS S i)) rfl rfl (ae EY) hone hmx tC (by simp;omega) ?_;intro v' w4 hown' hgrow hnil;clear hnil;obtain⟨g',cap',rfl⟩:=og hown' (by omega);change ((w2.alloc _).alloc _).grownBy w4 (Value.slice va i vc).ownBlock at hgrow;have b4:az w4 (w.heap.size+1) #[.slice va i vc,.slice none 0 0,.slice none 0 0] 47:=(hgrow.block (w.heap.size+1) (by simp;omega) (fun e=>ae HNE _ _ _ _ _ (ae OI) (ae KD) e.symm)).trans (((ae KD).alloc _).alloc _);have r4:az w4 w.heap.size RZ 47:=(hgrow.block w.heap.size (by simp;omega) (fun e=>bV (ae OI) e.symm (ae Ve) (by decide) rfl)).trans (((ae Ve).alloc _).alloc _);have c4:=b4.cell 0;have f4:=b4.frozen 0;simp at c4;have HB4:=ai b4;have HR4:=ai r4;have OE:=ai hgrow;have Sr:=ai hown';clear b4 r4 hgrow hown')
   go_wp2
   go_roundg (n-(i+1))
   case measure=>omega
   case rel =>
    refine⟨i+1,.slice (some ⟨g',0,none⟩) (i+1) cap',by push_cast;rfl,by omega,rfl,⟨?_,?_,?_,?_⟩⟩
    ·rw[NH,Jk]
     refine aG (ae Sr) ((au.refl (fun b=>b=w.heap.size+1) w4).setCell (p:=⟨w.heap.size+1,0,none⟩) (.inl rfl) _) (fun b hb e=>?_)
     rw[e]at hb
     exact ae HNE _ _ _ _ _ (ae Sr) (ae HB4) hb
    ·exact (ae HB4).set 0 _
    ·exact (ae HR4).other (by simp) _
    ·exact (((((ae yS).alloc _).alloc _).grown (ae OE) (fun k e=>.inr (rM (ae OI) e))).setCell (p:=⟨w.heap.size+1,0,none⟩) (.inr (by simp)) _)
  ·obtain rfl:i=n:=by omega
   obtain⟨va,vc,rfl⟩:=eF lk.row
   have e1:decide ((i:Int)+1<=(i:Int))=false:=by simp;omega
   have HL:=ai lk
   clear lk
   go_wp2
   go_loopg [8,9,10] 4 (fun kk iv _ _ wq=>∃(j:Nat) (kv:Value) (vs:List Value),iv=.int .i64 (j:Int)/\j<=4/\kk=4-j/\YW S i j w wq (.slice va i vc) kv vs)
   case atStart=>exact⟨0,.slice none 0 0,[],rfl,Nat.zero_le _,rfl,(ae HL).row,World.ownsRow_nil _ _ _ _,by simp,(ae HL).out,(ae HL).res,(ae HL).oJ⟩
   case round =>
    obtain⟨j,kv,vs,rfl,hj,abj,Ei⟩:=hrel
    obtain⟨ka,kc,rfl⟩:=eF Ei.wS
    have zA:=Ei.oJ.aB (ae HPb) (fun x=>x)
    have p02:wr.cell? ⟨P,0,none⟩=some (.pointer (some ⟨bv,0,none⟩)):=zA.cell 0
    by_cases hj4:j<4
    ·have hj0:j=0\/j=1\/j=2\/j=3:=by omega
     rcases hj0 with rfl|rfl|rfl|rfl
     ·have HBc:Hid (∀W,au aP wr W->Calls Tryz.prog 25 #[.pointer (some ⟨bv,0,none⟩),.string ⟨#[65]⟩,.int .i64 0] W fun e w'=>∃xa m xc,e=.returned (.tuple #[.slice xa m xc,.int .i64 0])/\yO S w.heap.size w' 0 (.slice xa m xc)/\au aP W w'):=fun W k=>ae HBk W (Ei.oJ.trans k) 0 (by omega)
      have HL2:=ai Ei
      have lPr:P<wr.heap.size:=zA.lt
      clear Ei zA
      go_wp2
      go_region_with (go_at_call 25;refine (ae HBc _ (by repeat (first|exact au.refl _ _|refine au.drew ?_|refine au.alloc ?_ _))).mono ?_;rintro e w2 ⟨xa,xm,xc,rfl,hbk,k2⟩)
      all_goals
       have kk:au aP wr w2:=au.trans (by repeat (first|exact au.refl _ _|refine au.drew ?_|refine au.alloc ?_ _)) k2
       have V7:=ai (vM (ae HL2) kk hbk rfl)
       have lt1:w.heap.size+1<w2.heap.size:=(kk.aB (ae HL2).out (fun x=>x)).lt
       have o1:w2.cell? ⟨w.heap.size+1,1,none⟩=some (.slice ka 0 kc):=(kk.aB (ae HL2).out (fun x=>x)).cell 1
       have HR3:=ai ((aG (ae HL2).wS kk (fun _ _ x=>x)).alloc (.cells #[.slice xa xm xc] 63))
       have hbs:w.heap.size<=w2.heap.size+1:=by omega
       obtain⟨i0,hi0,hz0,hz1,hz2⟩:=mG
       have HB2:=ai (kk.aB (ae HL2).out (fun x=>x))
       have IL:=ai (aG (ae HL2).wS kk (fun _ _ x=>x))
       have EY:=ai (Eu w2 (.slice xa xm xc) 63)
       clear k2 kk hbk p02 HBc HL2
       go_wp2_with (at_builtin;refine wpList_append_own _ rfl _ _ 45 rfl w.heap.size 63 i0 (.slice none 0 0) 1 24 Tryz.underlying45 hi0 hz0 hz1 hz2 rfl (by decide) _ 0 vs rfl (ae HR3) ⟨w2.heap.size,0,none⟩ 1 1 [.slice xa xm xc] rfl rfl (ae EY) (by simp[Value.oneCell']) (by decide) (by decide) (by simp;omega) ?_;intro v' w4 hown' hgrow hnil;clear hnil;obtain⟨g',cap',rfl⟩:=og hown' (by omega);change (w2.alloc _).grownBy w4 (Value.slice ka 0 kc).ownBlock at hgrow;have b4:az w4 (w.heap.size+1) #[.slice va i vc,.slice ka 0 kc,.slice none 0 0] 47:=(hgrow.block (w.heap.size+1) (by simp;omega) (fun e=>bV (ae IL) e.symm (ae HB2) (by decide) rfl)).trans ((ae HB2).alloc _);have c4:=b4.cell 1;have f4:=b4.frozen 1;simp at c4;have OE:=ai hgrow;have Sr:=ai hown';clear b4 hgrow hown')
       go_wp2
       go_roundg (4-(0+1))
       case measure=>omega
       case rel=>exact⟨0+1,.slice (some ⟨g',0,none⟩) (0+1) cap',_,rfl,by omega,rfl,ae V7 _ _ _ _ (ae Sr) (ae OE)⟩
     ·have HBc:Hid (∀W,au aP wr W->Calls Tryz.prog 25 #[.pointer (some ⟨bv,0,none⟩),.string ⟨#[65]⟩,.int .i64 1] W fun e w'=>∃xa m xc,e=.returned (.tuple #[.slice xa m xc,.int .i64 0])/\yO S w.heap.size w' 1 (.slice xa m xc)/\au aP W w'):=fun W k=>ae HBk W (Ei.oJ.trans k) 1 (by omega)
      have HL2:=ai Ei
      have lPr:P<wr.heap.size:=zA.lt
      clear Ei zA
      go_wp2
      go_region_with (go_at_call 25;refine (ae HBc _ (by repeat (first|exact au.refl _ _|refine au.drew ?_|refine au.alloc ?_ _))).mono ?_;rintro e w2 ⟨xa,xm,xc,rfl,hbk,k2⟩)
      all_goals
       have kk:au aP wr w2:=au.trans (by repeat (first|exact au.refl _ _|refine au.drew ?_|refine au.alloc ?_ _)) k2
       have V7:=ai (vM (ae HL2) kk hbk rfl)
       have lt1:w.heap.size+1<w2.heap.size:=(kk.aB (ae HL2).out (fun x=>x)).lt
       have o1:w2.cell? ⟨w.heap.size+1,1,none⟩=some (.slice ka 1 kc):=(kk.aB (ae HL2).out (fun x=>x)).cell 1
       have HR3:=ai ((aG (ae HL2).wS kk (fun _ _ x=>x)).alloc (.cells #[.slice xa xm xc] 63))
       have hbs:w.heap.size<=w2.heap.size+1:=by omega
       obtain⟨i0,hi0,hz0,hz1,hz2⟩:=mG
       have HB2:=ai (kk.aB (ae HL2).out (fun x=>x))
       have IL:=ai (aG (ae HL2).wS kk (fun _ _ x=>x))
       have EY:=ai (Eu w2 (.slice xa xm xc) 63)
       clear k2 kk hbk p02 HBc HL2
       go_wp2_with (at_builtin;refine wpList_append_own _ rfl _ _ 45 rfl w.heap.size 63 i0 (.slice none 0 0) 1 24 Tryz.underlying45 hi0 hz0 hz1 hz2 rfl (by decide) _ 1 vs rfl (ae HR3) ⟨w2.heap.size,0,none⟩ 1 1 [.slice xa xm xc] rfl rfl (ae EY) (by simp[Value.oneCell']) (by decide) (by decide) (by simp;omega) ?_;intro v' w4 hown' hgrow hnil;clear hnil;obtain⟨g',cap',rfl⟩:=og hown' (by omega);change (w2.alloc _).grownBy w4 (Value.slice ka 1 kc).ownBlock at hgrow;have b4:az w4 (w.heap.size+1) #[.slice va i vc,.slice ka 1 kc,.slice none 0 0] 47:=(hgrow.block (w.heap.size+1) (by simp;omega) (fun e=>bV (ae IL) e.symm (ae HB2) (by decide) rfl)).trans ((ae HB2).alloc _);have c4:=b4.cell 1;have f4:=b4.frozen 1;simp at c4;have OE:=ai hgrow;have Sr:=ai hown';clear b4 hgrow hown')
       go_wp2
       go_roundg (4-(1+1))
       case measure=>omega
       case rel=>exact⟨1+1,.slice (some ⟨g',0,none⟩) (1+1) cap',_,rfl,by omega,rfl,ae V7 _ _ _ _ (ae Sr) (ae OE)⟩
     ·have HBc:Hid (∀W,au aP wr W->Calls Tryz.prog 25 #[.pointer (some ⟨bv,0,none⟩),.string ⟨#[206,145,206,169]⟩,.int .i64 0] W fun e w'=>∃xa m xc,e=.returned (.tuple #[.slice xa m xc,.int .i64 0])/\yO S w.heap.size w' 2 (.slice xa m xc)/\au aP W w'):=fun W k=>ae HBk W (Ei.oJ.trans k) 2 (by omega)
      have HL2:=ai Ei
      have lPr:P<wr.heap.size:=zA.lt
      clear Ei zA
      go_wp2
      go_region_with (go_at_call 25;refine (ae HBc _ (by repeat (first|exact au.refl _ _|refine au.drew ?_|refine au.alloc ?_ _))).mono ?_;rintro e w2 ⟨xa,xm,xc,rfl,hbk,k2⟩)
      all_goals
       have kk:au aP wr w2:=au.trans (by repeat (first|exact au.refl _ _|refine au.drew ?_|refine au.alloc ?_ _)) k2
       have V7:=ai (vM (ae HL2) kk hbk rfl)
       have lt1:w.heap.size+1<w2.heap.size:=(kk.aB (ae HL2).out (fun x=>x)).lt
       have o1:w2.cell? ⟨w.heap.size+1,1,none⟩=some (.slice ka 2 kc):=(kk.aB (ae HL2).out (fun x=>x)).cell 1
       have HR3:=ai ((aG (ae HL2).wS kk (fun _ _ x=>x)).alloc (.cells #[.slice xa xm xc] 63))
       have hbs:w.heap.size<=w2.heap.size+1:=by omega
       obtain⟨i0,hi0,hz0,hz1,hz2⟩:=mG
       have HB2:=ai (kk.aB (ae HL2).out (fun x=>x))
       have IL:=ai (aG (ae HL2).wS kk (fun _ _ x=>x))
       have EY:=ai (Eu w2 (.slice xa xm xc) 63)
       clear k2 kk hbk p02 HBc HL2
       go_wp2_with (at_builtin;refine wpList_append_own _ rfl _ _ 45 rfl w.heap.size 63 i0 (.slice none 0 0) 1 24 Tryz.underlying45 hi0 hz0 hz1 hz2 rfl (by decide) _ 2 vs rfl (ae HR3) ⟨w2.heap.size,0,none⟩ 1 1 [.slice xa xm xc] rfl rfl (ae EY) (by simp[Value.oneCell']) (by decide) (by decide) (by simp;omega) ?_;intro v' w4 hown' hgrow hnil;clear hnil;obtain⟨g',cap',rfl⟩:=og hown' (by omega);change (w2.alloc _).grownBy w4 (Value.slice ka 2 kc).ownBlock at hgrow;have b4:az w4 (w.heap.size+1) #[.slice va i vc,.slice ka 2 kc,.slice none 0 0] 47:=(hgrow.block (w.heap.size+1) (by simp;omega) (fun e=>bV (ae IL) e.symm (ae HB2) (by decide) rfl)).trans ((ae HB2).alloc _);have c4:=b4.cell 1;have f4:=b4.frozen 1;simp at c4;have OE:=ai hgrow;have Sr:=ai hown';clear b4 hgrow hown')
       go_wp2
       go_roundg (4-(2+1))
       case measure=>omega
       case rel=>exact⟨2+1,.slice (some ⟨g',0,none⟩) (2+1) cap',_,rfl,by omega,rfl,ae V7 _ _ _ _ (ae Sr) (ae OE)⟩
     ·have HBc:Hid (∀W,au aP wr W->Calls Tryz.prog 25 #[.pointer (some ⟨bv,0,none⟩),.string ⟨#[206,145,206,169]⟩,.int .i64 1] W fun e w'=>∃xa m xc,e=.returned (.tuple #[.slice xa m xc,.int .i64 0])/\yO S w.heap.size w' 3 (.slice xa m xc)/\au aP W w'):=fun W k=>ae HBk W (Ei.oJ.trans k) 3 (by omega)
      have HL2:=ai Ei
      have lPr:P<wr.heap.size:=zA.lt
      clear Ei zA
      go_wp2
      go_region_with (go_at_call 25;refine (ae HBc _ (by repeat (first|exact au.refl _ _|refine au.drew ?_|refine au.alloc ?_ _))).mono ?_;rintro e w2 ⟨xa,xm,xc,rfl,hbk,k2⟩)
      all_goals
       have kk:au aP wr w2:=au.trans (by repeat (first|exact au.refl _ _|refine au.drew ?_|refine au.alloc ?_ _)) k2
       have V7:=ai (vM (ae HL2) kk hbk rfl)
       have lt1:w.heap.size+1<w2.heap.size:=(kk.aB (ae HL2).out (fun x=>x)).lt
       have o1:w2.cell? ⟨w.heap.size+1,1,none⟩=some (.slice ka 3 kc):=(kk.aB (ae HL2).out (fun x=>x)).cell 1
       have HR3:=ai ((aG (ae HL2).wS kk (fun _ _ x=>x)).alloc (.cells #[.slice xa xm xc] 63))
       have hbs:w.heap.size<=w2.heap.size+1:=by omega
       obtain⟨i0,hi0,hz0,hz1,hz2⟩:=mG
       have HB2:=ai (kk.aB (ae HL2).out (fun x=>x))
       have IL:=ai (aG (ae HL2).wS kk (fun _ _ x=>x))
       have EY:=ai (Eu w2 (.slice xa xm xc) 63)
       clear k2 kk hbk p02 HBc HL2
       go_wp2_with (at_builtin;refine wpList_append_own _ rfl _ _ 45 rfl w.heap.size 63 i0 (.slice none 0 0) 1 24 Tryz.underlying45 hi0 hz0 hz1 hz2 rfl (by decide) _ 3 vs rfl (ae HR3) ⟨w2.heap.size,0,none⟩ 1 1 [.slice xa xm xc] rfl rfl (ae EY) (by simp[Value.oneCell']) (by decide) (by decide) (by simp;omega) ?_;intro v' w4 hown' hgrow hnil;clear hnil;obtain⟨g',cap',rfl⟩:=og hown' (by omega);change (w2.alloc _).grownBy w4 (Value.slice ka 3 kc).ownBlock at hgrow;have b4:az w4 (w.heap.size+1) #[.slice va i vc,.slice ka 3 kc,.slice none 0 0] 47:=(hgrow.block (w.heap.size+1) (by simp;omega) (fun e=>bV (ae IL) e.symm (ae HB2) (by decide) rfl)).trans ((ae HB2).alloc _);have c4:=b4.cell 1;have f4:=b4.frozen 1;simp at c4;have OE:=ai hgrow;have Sr:=ai hown';clear b4 hgrow hown')
       go_wp2
       go_roundg (4-(3+1))
       case measure=>omega
       case rel=>exact⟨3+1,.slice (some ⟨g',0,none⟩) (3+1) cap',_,rfl,by omega,rfl,ae V7 _ _ _ _ (ae Sr) (ae OE)⟩
    ·obtain rfl:j=4:=by omega
     have HT:=ai (fun (W:World) (k:au aP wr W)=>ae HTA W (Ei.oJ.trans k))
     have lPr:P<wr.heap.size:=zA.lt
     have HL2:=ai Ei
     clear Ei zA
     go_wp2_with fail
     refine (ae HT wr (au.refl aP wr)).mono ?_
     rintro e w2 ⟨ta,tc,rfl,hrt,k2⟩
     have HRT:=ai hrt
     clear hrt
     have qy:=k2.aB (ae HL2).out (fun x=>x)
     have qK:=k2.aB (ae HL2).res (fun x=>x)
     have a0:w2.cell? ⟨w.heap.size+1,0,none⟩=some (.slice va i vc):=qy.cell 0
     have a1:w2.cell? ⟨w.heap.size+1,1,none⟩=some (.slice ka 4 kc):=qy.cell 1
     have a2:w2.cell? ⟨w.heap.size+1,2,none⟩=some (.slice none 0 0):=qy.cell 2
     have g2:=qy.frozen 2
     have b0:w2.cell? ⟨w.heap.size,0,none⟩=some (.slice none 0 0):=qK.cell 0
     have b1:w2.cell? ⟨w.heap.size,1,none⟩=some (.slice none 0 0):=qK.cell 1
     have b2:w2.cell? ⟨w.heap.size,2,none⟩=some (.slice none 0 0):=qK.cell 2
     have f0:=qK.frozen 0
     have f1:=qK.frozen 1
     have f2:=qK.frozen 2
     have KD:=ai qy
     have HR2:=ai qK
     have yS:=ai k2
     clear qy qK k2 p02
     go_wp2
     refine bodyPost_ret (aap _ w.heap.size _ (.slice va i vc) (.slice ka 4 kc) (.slice ta tn tc) rfl rfl ?_) rfl ⟨va,vc,ka,kc,ta,tc,vs,rfl,?_,?_⟩
     ·exact ((((ae HR2).other (a:=⟨w.heap.size+1,2,none⟩) (by simp) _).set 0 _).set 1 _).set 2 _
     ·exact XJ (ae HL2) (ae yS) (ae HRT) _ _ _ _
     ·exact Uo (ae HL2) (ae yS) _ _ _ _ (.bool true)
theorem pK{w:World}{base e size m cap:Nat}{a:Option Addr}{xs:List Value}(h:w.ownsRow base e size (.slice a m cap) m xs)(hm:0<m):∃g,a=some ⟨g,0,none⟩/\∀i u,xs[i]?=some u->w.cell? ⟨g,i,none⟩=some u:=by
 rcases h.2 with⟨h0,h1⟩|⟨g,c,cur,hv,_,hg,_,_,_,ht⟩
 ·omega
 ·injection hv with h1 h2 h3
  refine⟨g,h1,fun i u hu=>?_⟩
  rw[<-ht]at hu
  have hi:=(List.getElem?_eq_some_iff.1 hu).1
  rw[List.getElem?_take]at hu
  split at hu
  ·simp[World.cell?,hg]
   simpa using hu
  ·simp at hu
theorem Py:∀(ts:List Tr) (i:Nat) (t:Tr) (j:Nat) (u:Value),ts[i]?=some t->t.cells[j]?=some u->(dR ts)[i * 7+j]?=some u:=by
 intro ts
 induction ts with
 | nil=>intro i t j u h;simp at h
 | cons x ts ih =>
   intro i t j u h hu
   have hl:x.cells.length=7:=rfl
   have hj:j<7:=by
    have:=(List.getElem?_eq_some_iff.1 hu).1
    simpa [Tr.cells] using this
   show (x.cells++dR ts)[i * 7+j]?=some u
   cases i with
   | zero =>
     simp only[List.getElem?_cons_zero,Option.some.injEq]at h
     subst h
     rw[List.getElem?_append_left (by rw[hl];omega)]
     simpa using hu
   | succ i =>
     simp only[List.getElem?_cons_succ]at h
     rw[List.getElem?_append_right (by rw[hl];omega),hl]
     have e:(i+1) * 7+j-7=i * 7+j:=by omega
     rw[e]
     exact ih i t j u h hu
def o7(w:World)(base:Nat)(a:Option Addr)(c:Nat)(ts:List Tr):Prop:=w.ownsRow base 56 7 (.slice a ts.length c) ts.length (dR ts)
theorem o7.at{w:World}{base c:Nat}{a:Option Addr}{ts:List Tr}(h:o7 w base a c ts){i:Nat}{t:Tr}(ht:ts[i]?=some t):∃g,a=some ⟨g,0,none⟩/\∀j u,t.cells[j]?=some u->w.cell? ⟨g,i * 7+j,none⟩=some u:=by
 have hi:=(List.getElem?_eq_some_iff.1 ht).1
 obtain⟨g,e,hc⟩:=pK h (by omega)
 exact⟨g,e,fun j u hu=>hc _ _ (Py ts i t j u ht hu)⟩
theorem QU(b1 b2 c1 c2:Nat)(a1 a2:Option Addr)(ts:List Tr)(w:World)(h1:o7 w b1 a1 c1 ts)(h2:o7 w b2 a2 c2 ts)(hlen:ts.length<=1000000) :
 Calls Tryz.prog 19 #[.slice a1 ts.length c1,.slice a2 ts.length c2] w fun e w'=>e=.returned (.bool true)/\au aP w w':=by
 obtain⟨n,hn⟩:∃n,ts.length=n:=⟨_,rfl⟩
 have HX:Hid (∀i,i<n->∃(t:Tr) (g1 g2:Nat),a1=some ⟨g1,0,none⟩/\a2=some ⟨g2,0,none⟩/\(∀(j:Nat) (u:Value),t.cells[j]?=some u->w.cell? ⟨g1,i * 7+j,none⟩=some u)/\∀(j:Nat) (u:Value),t.cells[j]?=some u->w.cell? ⟨g2,i * 7+j,none⟩=some u):=fun i hi=>by
  have hi':i<ts.length:=by omega
  obtain⟨g1,e1,x1⟩:=h1.at (List.getElem?_eq_getElem hi')
  obtain⟨g2,e2,x2⟩:=h2.at (List.getElem?_eq_getElem hi')
  exact⟨_,g1,g2,e1,e2,x1,x2⟩
 rw[hn]at hlen ⊢
 clear h1 h2 hn
 go_enter Tryz.func19,Tryz.ntmps19
 go_wp2
 go_loopg [5] n (fun k iv wr=>∃i:Nat,iv=.int .i64 (i:Int)/\i<=n/\k=n-i/\au aP w wr)
 case atStart=>exact⟨0,rfl,Nat.zero_le _,rfl,au.refl _ _⟩
 case round =>
  obtain⟨i,rfl,hi,hgk,kr⟩:=hrel
  by_cases hlt:i<n
  ·obtain⟨t,g1,g2,rfl,rfl,x1,x2⟩:=ae HX i hlt
   have p0:wr.cell? ⟨g1,i * 7,none⟩=some (.int .i64 t.num):=kr.cell (x1 0 _ rfl) (fun x=>x)
   have p1:wr.cell? ⟨g1,i * 7+1,none⟩=some (.string t.sym):=kr.cell (x1 1 _ rfl) (fun x=>x)
   have p2:wr.cell? ⟨g1,i * 7+2,none⟩=some (.int .i64 t.af):=kr.cell (x1 2 _ rfl) (fun x=>x)
   have p3:wr.cell? ⟨g1,i * 7+3,none⟩=some (.int .i64 t.aI):=kr.cell (x1 3 _ rfl) (fun x=>x)
   have p4:wr.cell? ⟨g1,i * 7+4,none⟩=some (.int .i64 t.kZ):=kr.cell (x1 4 _ rfl) (fun x=>x)
   have p5:wr.cell? ⟨g1,i * 7+5,none⟩=some (.int .i64 t.fM):=kr.cell (x1 5 _ rfl) (fun x=>x)
   have p6:wr.cell? ⟨g1,i * 7+6,none⟩=some (.int .i64 t.day):=kr.cell (x1 6 _ rfl) (fun x=>x)
   have q0:wr.cell? ⟨g2,i * 7,none⟩=some (.int .i64 t.num):=kr.cell (x2 0 _ rfl) (fun x=>x)
   have q1:wr.cell? ⟨g2,i * 7+1,none⟩=some (.string t.sym):=kr.cell (x2 1 _ rfl) (fun x=>x)
   have q2:wr.cell? ⟨g2,i * 7+2,none⟩=some (.int .i64 t.af):=kr.cell (x2 2 _ rfl) (fun x=>x)
   have q3:wr.cell? ⟨g2,i * 7+3,none⟩=some (.int .i64 t.aI):=kr.cell (x2 3 _ rfl) (fun x=>x)
   have q4:wr.cell? ⟨g2,i * 7+4,none⟩=some (.int .i64 t.kZ):=kr.cell (x2 4 _ rfl) (fun x=>x)
   have q5:wr.cell? ⟨g2,i * 7+5,none⟩=some (.int .i64 t.fM):=kr.cell (x2 5 _ rfl) (fun x=>x)
   have q6:wr.cell? ⟨g2,i * 7+6,none⟩=some (.int .i64 t.day):=kr.cell (x2 6 _ rfl) (fun x=>x)
   have HK:=ai kr
   clear kr x1 x2
   go_wp2
   go_quiet (fail)
   go_wp2
   go_roundg (n-(i+1))
   case measure=>omega
   case rel=>exact⟨i+1,by push_cast;rfl,by omega,rfl,(ae HK).drewN _⟩
  ·obtain rfl:i=n:=by omega
   go_wp2
   go_ret
   exact⟨rfl,kr⟩
theorem jT.steps{rs:List Rc}{ts:List Tr}(h:jT rs ts):∃F:Nat->List Tr,F 0=[]/\F rs.length=ts/\∀(i:Nat) (r:Rc),rs[i]?=some r->lJ (F i) r (F (i+1))/\r.num=(i:Int)+1:=by
 induction h with
 | nil=>exact⟨fun _=>[],rfl,rfl,fun i r h=>by simp at h⟩
 | @iT rs r a b h hr hn ih =>
   obtain⟨F,F0,Fn,FS⟩:=ih
   refine⟨fun i=>if i<=rs.length then F i else b,?_,?_,fun i x hx=>?_⟩
   ·show (if 0<=rs.length then F 0 else b)=[]
    rw[if_pos (Nat.zero_le _)];exact F0
   ·show (if (rs++[r]).length<=rs.length then _ else b)=b
    rw[if_neg (by rw[List.length_append];simp)]
   ·show lJ (if i<=rs.length then F i else b) x (if i+1<=rs.length then F (i+1) else b)/\_
    by_cases hi:i<rs.length
    ·rw[List.getElem?_append_left hi]at hx
     rw[if_pos (by omega),if_pos (by omega)]
     exact FS i x hx
    ·have hi2:=(List.getElem?_eq_some_iff.1 hx).1
     rw[List.length_append,List.length_singleton]at hi2
     obtain rfl:i=rs.length:=by omega
     rw[List.getElem?_append_right (Nat.le_refl _),Nat.sub_self]at hx
     simp only[List.getElem?_cons_zero,Option.some.injEq]at hx
     subst hx
     rw[if_pos (Nat.le_refl _),if_neg (by omega),Fn]
     exact⟨hr,hn⟩
theorem lJ.len{a b:List Tr}{r:Rc}(h:lJ a r b):b.length<=a.length+1:=by
 cases h with
 | close hk=>omega
 | print hk h1 h2=>simp only[List.length_append,List.length_singleton];omega
 | wU hk h1 h2=>simp only[List.length_append,List.length_singleton];omega
 | iw hk ht h1 h2=>simp only[List.length_append,List.length_singleton];omega
theorem NR{rs:List Rc}{F:Nat->List Tr}(F0:F 0=[])(FS:∀(i:Nat) (r:Rc),rs[i]?=some r->lJ (F i) r (F (i+1))/\r.num=(i:Int)+1):∀i,i<=rs.length->(F i).length<=i:=by
 intro i
 induction i with
 | zero=>intro _;rw[F0];exact Nat.le_refl _
 | succ i ih =>
   intro hi
   have h1:=ih (by omega)
   have h2:=(FS i _ (List.getElem?_eq_getElem (by omega))).1.len
   omega
structure WG(L:List Tr)(N:Int)(na:Nat):Prop where
 le:na<=L.length
 qH:∀(j:Nat) (t:Tr),j<na->L[j]?=some t->t.num<N
 top:∀t:Tr,L[na]?=some t->N<=t.num
inductive yR (L:List Tr) (r:Rc) (na:Nat):List Tr->Prop
 | print (hk:r.kind=1) (ht:∀t:Tr,L[na]?=some t->r.t.num<t.num):yR L r na (L.take na++[r.t]++L.drop na)
 | wU (hk:r.kind=2) (ht:L[na]?=some r.t):yR L r na (L.take na++L.drop (na+1))
 | iw (hk:r.kind=3) (t:Tr) (ht:L[na]?=some t) (hn:t.num=r.t.num):yR L r na (L.take na++[r.t]++L.drop (na+1))
theorem lJ.Zh{a b:List Tr}{r:Rc}(h:lJ a r b):(r.kind=4/\a=b)\/∃na,WG a r.t.num na/\yR a r na b:=by
 cases h with
 | @print a b r hk h1 h2 =>
   right
   have top:∀t:Tr,(a++b)[a.length]?=some t->r.t.num<t.num:=fun t ht=>by
    rw[List.getElem?_append_right (Nat.le_refl _),Nat.sub_self]at ht
    exact h2 t (List.mem_of_getElem? ht)
   refine⟨a.length,⟨by simp,fun j t hj ht=>?_,fun t ht=>Int.le_of_lt (top t ht)⟩,?_⟩
   ·rw[List.getElem?_append_left hj]at ht
    exact h1 t (List.mem_of_getElem? ht)
   ·have:=yR.print (L:=a++b) (na:=a.length) hk top
    rw[List.take_left,List.drop_left]at this
    exact this
 | @wU a b r hk h1 h2 =>
   right
   have e:(a++[r.t]++b)[a.length]?=some r.t:=by
    rw[List.append_assoc,List.getElem?_append_right (Nat.le_refl _),Nat.sub_self];rfl
   refine⟨a.length,⟨by simp,fun j t hj ht=>?_,fun t ht=>?_⟩,?_⟩
   ·rw[List.append_assoc,List.getElem?_append_left hj]at ht
    exact h1 t (List.mem_of_getElem? ht)
   ·rw[e]at ht;obtain rfl:=Option.some.inj ht;exact Int.le_refl _
   ·have h:=yR.wU (L:=a++[r.t]++b) (na:=a.length) hk e
    have e1:(a++[r.t]++b).take a.length=a:=by rw[List.append_assoc,List.take_left]
    have e2:(a++[r.t]++b).drop (a.length+1)=b:=by
     have:a.length+1=(a++[r.t]).length:=by simp
     rw[this,List.drop_left]
    rw[e1,e2]at h
    exact h
 | @iw a b r t hk ht h1 h2 =>
   right
   have e:(a++[t]++b)[a.length]?=some t:=by
    rw[List.append_assoc,List.getElem?_append_right (Nat.le_refl _),Nat.sub_self];rfl
   refine⟨a.length,⟨by simp,fun j x hj hx=>?_,fun x hx=>?_⟩,?_⟩
   ·rw[List.append_assoc,List.getElem?_append_left hj]at hx
    exact h1 x (List.mem_of_getElem? hx)
   ·rw[e]at hx;obtain rfl:=Option.some.inj hx;rw[ht];exact Int.le_refl _
   ·have h:=yR.iw (L:=a++[t]++b) (na:=a.length) hk t e ht
    have e1:(a++[t]++b).take a.length=a:=by rw[List.append_assoc,List.take_left]
    have e2:(a++[t]++b).drop (a.length+1)=b:=by
     have:a.length+1=(a++[t]).length:=by simp
     rw[this,List.drop_left]
    rw[e1,e2]at h
    exact h
 | close hk=>exact .inl ⟨hk,rfl⟩
theorem zt:∀(p:Nat) (ts:List Tr),dR (ts.drop p)=(dR ts).drop (p * 7)
 | 0,ts=>by simp
 | p+1,[]=>by simp[dR]
 | p+1,t :: ts=>by
   rw[List.drop_succ_cons,zt p ts]
   show _=(t.cells++dR ts).drop _
   have e:(p+1) * 7=t.cells.length+p * 7:=by
    have:t.cells.length=7:=rfl
    omega
   rw[e,<-List.drop_drop,List.drop_left]
theorem jZ(ts:List Tr):∀u∈dR ts,u.oneCell'=true:=by
 intro u hu
 obtain⟨r,_,h⟩:=List.mem_flatMap.1 hu
 simp only[Tr.cells,List.mem_cons,List.not_mem_nil,or_false]at h
 rcases h with h|h|h|h|h|h|h <;> rw[h] <;> rfl
theorem o7.tail{w:World}{base c g:Nat}{ts:List Tr}(h:o7 w base (some ⟨g,0,none⟩) c ts)(p:Nat):∀j u,(dR (ts.drop p))[j]?=some u->w.cell? (Addr.add ⟨g,p * 7,none⟩ j)=some u:=by
 intro j u hj
 rw[zt,List.getElem?_drop]at hj
 have h:=World.ownsRow.cells h (g:=g) rfl _ u hj
 have e1:Addr.add ⟨g,0,none⟩ (p * 7+j)=Addr.add ⟨g,p * 7,none⟩ j:=by by_cases h1:j=0 <;> by_cases h2:p=0 <;> simp[Addr.add,h1,h2] <;> omega
 rw[e1]at h
 exact h
theorem o7.head{w:World}{base c g:Nat}{ts:List Tr}(h:o7 w base (some ⟨g,0,none⟩) c ts)(p:Nat):∀j u,(dR (ts.take p))[j]?=some u->w.cell? (Addr.add ⟨g,0,none⟩ j)=some u:=by
 intro j u hj
 have e:=bK (ts.take p) (ts.drop p)
 rw[List.take_append_drop]at e
 refine World.ownsRow.cells h (g:=g) rfl _ u ?_
 rw[e,List.getElem?_append_left ((List.getElem?_eq_some_iff.1 hj).1)]
 exact hj
theorem o7.aC{w w':World}{base c:Nat}{a:Option Addr}{ts:List Tr}(h:o7 w base a c ts){S:Nat->Prop}(k:au S w w')(hS:∀b,(∃o s,a=some ⟨b,o,s⟩)->¬S b):o7 w' base a c ts:=by
 refine aG h k (fun b hb=>hS b ?_)
 cases a with
 | none=>simp[Value.ownBlock]at hb
 | some x=>simp only[Value.ownBlock,Option.some.injEq]at hb;subst hb;exact⟨_,_,rfl⟩
theorem o7.form{w:World}{base c:Nat}{a:Option Addr}{ts:List Tr}(h:o7 w base a c ts):(a=none/\ts=[]/\c=0)\/∃g,a=some ⟨g,0,none⟩/\base<=g/\ts.length<=c:=by
 rcases h.2 with⟨h1,h2⟩|⟨g,cap,cur,h1,hb,_,hc,_⟩
 ·injection h1 with e1 e2 e3
  exact .inl ⟨e1,List.length_eq_zero_iff.1 h2,e3⟩
 ·injection h1 with e1 e2 e3
  exact .inr ⟨g,e1,hb,by omega⟩
end Go.Proofs.YtigaphnafnpfnaaGreatDoor
