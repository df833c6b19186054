import Derived.Test.YtigaphnafnpfnaaGreatDoorQVR1
import Derived.Test.YtigaphnafnpfnaaGreatDoorQVY4
import Derived.Test.YtigaphnafnpfnaaGreatDoorQVC2
import Derived.Test.YtigaphnafnpfnaaGreatDoorQVF2
import Derived.Test.YtigaphnafnpfnaaGreatDoorQVC5
import Derived.Lib.SliceRun
import Derived.Test.YtigaphnafnpfnaaGreatDoorQVR5
import Derived.Test.YtigaphnafnpfnaaGreatDoorQVY10
import Derived.Test.YtigaphnafnpfnaaGreatDoorQVU5
set_option linter.unusedVariables false
set_option linter.unusedSimpArgs false
set_option maxHeartbeats 8000000
set_option maxRecDepth 100000
namespace Go.Proofs.YtigaphnafnpfnaaGreatDoor
open Go.RowKit Go.Maps
theorem own_base{w:World}{B B' e k:Nat}{v:Value}{n:Nat}{xs:List Value}(h:w.ownsRow B e k v n xs)(hB:B'≤B):w.ownsRow B' e k v n xs :=
 ⟨h.1,h.2.imp_right (fun ⟨g,cap,cs,e1,e2,e3⟩=>⟨g,cap,cs,e1,Nat.le_trans hB e2,e3⟩)⟩
end Go.Proofs.YtigaphnafnpfnaaGreatDoor
namespace Go.Proofs.YtigaphnafnpfnaaGreatDoor
open Go.RowKit Go.Maps
attribute [local go_sem ↓] Go.wp_at_zero Go.wp_at_succ
theorem Yr(tmps:Array Value)(H:Nat)(w:World)(t:Tr)(ht:tmps.getD 2 undef=.pointer (some ⟨H,0,none⟩))(hb:ai w H #[.int .i64 t.num,.string t.sym,.int .i64 t.price,.int .i64 t.qty,.int .i64 t.jh,.int .i64 t.sell,.int .i64 t.day] 56) :
 (results Tryz.f43 tmps).run Tryz.prog w=.ok t.val w:=by
 have c0:w.cell? ⟨H,0,none⟩=some (.int .i64 t.num):=hb.cell 0
 have c1:w.cell? ⟨H,1,none⟩=some (.string t.sym):=hb.cell 1
 have c2:w.cell? ⟨H,2,none⟩=some (.int .i64 t.price):=hb.cell 2
 have c3:w.cell? ⟨H,3,none⟩=some (.int .i64 t.qty):=hb.cell 3
 have c4:w.cell? ⟨H,4,none⟩=some (.int .i64 t.jh):=hb.cell 4
 have c5:w.cell? ⟨H,5,none⟩=some (.int .i64 t.sell):=hb.cell 5
 have c6:w.cell? ⟨H,6,none⟩=some (.int .i64 t.day):=hb.cell 6
 simp only[Array.getD_eq_getD_getElem?]at ht
 simp[results,Tryz.results43,go_sem,ht,c0,c1,c2,c3,c4,c5,c6,Tr.val]
theorem qW(t:Tr)(w:World)(hs:t.sym.size≤100000):Calls Tryz.prog 43 #[t.val] w fun e w'=>e=.returned t.val∧ag ak w w':=by
 obtain⟨tn,ts,tp,tq,jd,jf,td⟩:=t
 simp only[Tr.val]at hs ⊢
 obtain⟨w1,hw1⟩:∃w1,w1=(w.alloc (.cells #[.int .i64 tn,.string ts,.int .i64 tp,.int .i64 tq,.int .i64 jd,.int .i64 jf,.int .i64 td] 56)).alloc (.cells #[.int .i64 0,.string ⟨#[]⟩,.int .i64 0,.int .i64 0,.int .i64 0,.int .i64 0,.int .i64 0] 56):=⟨_,rfl⟩
 have k1:ag ak w w1:=by rw[hw1];exact ((ag.refl ak w).alloc _).alloc _
 have b1:ai w1 w.heap.size #[.int .i64 tn,.string ts,.int .i64 tp,.int .i64 tq,.int .i64 jd,.int .i64 jf,.int .i64 td] 56:=by rw[hw1];exact (ai.new w _ _).alloc _
 have r1:ai w1 (w.heap.size+1) #[.int .i64 0,.string ⟨#[]⟩,.int .i64 0,.int .i64 0,.int .i64 0,.int .i64 0,.int .i64 0] 56:=by rw[hw1];exact ai.jR w _ _ _
 have HW:=hide hw1
 clear hw1
 go_enter Tryz.func43,Tryz.ntmps43
 go_wp2_with fail
 rw[←ae HW]
 refine (clone_any ts w1 hs).mono ?_
 rintro e w2 ⟨rfl,k2⟩
 have b2:=k2.blk b1 (fun x=>x)
 have r2:=k2.blk r1 (fun x=>x)
 have kk:=k1.trans k2
 have t0:w2.cell? ⟨w.heap.size,0,none⟩=some (.int .i64 tn):=b2.cell 0
 have t1:w2.cell? ⟨w.heap.size,1,none⟩=some (.string ts):=b2.cell 1
 have t2:w2.cell? ⟨w.heap.size,2,none⟩=some (.int .i64 tp):=b2.cell 2
 have t3:w2.cell? ⟨w.heap.size,3,none⟩=some (.int .i64 tq):=b2.cell 3
 have t4:w2.cell? ⟨w.heap.size,4,none⟩=some (.int .i64 jd):=b2.cell 4
 have t5:w2.cell? ⟨w.heap.size,5,none⟩=some (.int .i64 jf):=b2.cell 5
 have t6:w2.cell? ⟨w.heap.size,6,none⟩=some (.int .i64 td):=b2.cell 6
 have g1:=b2.frozen 1
 have u0:w2.cell? ⟨w.heap.size+1,0,none⟩=some (.int .i64 0):=r2.cell 0
 have u1:w2.cell? ⟨w.heap.size+1,1,none⟩=some (.string ⟨#[]⟩):=r2.cell 1
 have u2:w2.cell? ⟨w.heap.size+1,2,none⟩=some (.int .i64 0):=r2.cell 2
 have u3:w2.cell? ⟨w.heap.size+1,3,none⟩=some (.int .i64 0):=r2.cell 3
 have u4:w2.cell? ⟨w.heap.size+1,4,none⟩=some (.int .i64 0):=r2.cell 4
 have u5:w2.cell? ⟨w.heap.size+1,5,none⟩=some (.int .i64 0):=r2.cell 5
 have u6:w2.cell? ⟨w.heap.size+1,6,none⟩=some (.int .i64 0):=r2.cell 6
 have q0:=r2.frozen 0
 have q1:=r2.frozen 1
 have q2:=r2.frozen 2
 have q3:=r2.frozen 3
 have q4:=r2.frozen 4
 have q5:=r2.frozen 5
 have q6:=r2.frozen 6
 have HB2:=hide b2
 have HR2:=hide r2
 have HK:=hide kk
 clear b1 r1 b2 r2 k1 k2 kk
 go_wp2
 refine bodyPost_ret (Yr _ (w.heap.size+1) _ ⟨tn,ts,tp,tq,jd,jf,td⟩ rfl ?_) rfl ⟨rfl,?_⟩
 ·exact ((((((((ae HR2).other (a:=⟨w.heap.size,1,none⟩) (by simp) _).set 0 _).set 1 _).set 2 _).set 3 _).set 4 _).set 5 _).set 6 _
 ·exact ((((((((ae HK).setCell (p:=⟨w.heap.size,1,none⟩) (.inr (Nat.le_refl _)) _).setCell (p:=⟨w.heap.size+1,0,none⟩) (.inr (by simp)) _).setCell (p:=⟨w.heap.size+1,1,none⟩) (.inr (by simp)) _).setCell (p:=⟨w.heap.size+1,2,none⟩) (.inr (by simp)) _).setCell (p:=⟨w.heap.size+1,3,none⟩) (.inr (by simp)) _).setCell (p:=⟨w.heap.size+1,4,none⟩) (.inr (by simp)) _).setCell (p:=⟨w.heap.size+1,5,none⟩) (.inr (by simp)) _).setCell (p:=⟨w.heap.size+1,6,none⟩) (.inr (by simp)) _
theorem UA:(Tryz.prog.info? 56).map (fun i=>(i.zero.map (fun z=>z.cells.size),i.size,i.bytes))=some (some 7,7,64):=by kernel_rfl
theorem Cf:∃i z,Tryz.prog.info? 56=some i∧i.zero=some z∧i.size=7∧i.bytes=64∧z.cells.size=7:=by
 have h:=UA
 cases hi:Tryz.prog.info? 56 with
 | none=>rw[hi]at h;simp at h
 | some i =>
   rw[hi]at h
   simp at h
   obtain⟨⟨z,hz,hs⟩,h2,h3⟩:=h
   exact⟨i,z,rfl,hz,h2,h3,hs⟩
theorem X9(w:World)(t:Tr):∀j u,t.cells[j]?=some u→(w.alloc (.cells #[.int .i64 t.num,.string t.sym,.int .i64 t.price,.int .i64 t.qty,.int .i64 t.jh,.int .i64 t.sell,.int .i64 t.day] 56)).cell? (Addr.add ⟨w.heap.size,0,none⟩ j)=some u:=by
 intro j u hj
 exact World.news_of_block (ai.new w #[.int .i64 t.num,.string t.sym,.int .i64 t.price,.int .i64 t.qty,.int .i64 t.jh,.int .i64 t.sell,.int .i64 t.day] 56) j u hj
def pM(ts:List Tr):List Value:=ts.flatMap Tr.cells
theorem BQ(a b:List Tr):pM (a++b)=pM a++pM b:=by simp[pM,List.flatMap_append]
theorem Hw(a:List Tr)(t:Tr):pM (a++[t])=pM a++t.cells:=by rw[BQ];simp[pM]
theorem xW(tr:List Tg)(i:Nat):(eU (tr.take i)).length≤i:=by
 unfold eU
 rw[List.length_map]
 refine Nat.le_trans (List.length_filter_le _ _) ?_
 rw[List.length_take]
 omega
theorem Jg(bv bm bo:Nat)(G:Lg)(lm:Lm)(w:World)(hL:aK w bv bm bo G lm)(hsy:Kq G)(hlen:G.tr.length≤1000000000) :
 Calls Tryz.prog 20 #[.pointer (some ⟨bv,0,none⟩)] w fun e w'=>∃a c,e=.returned (.slice a (eU G.tr).length c)∧w'.ownsRow w.heap.size 56 7 (.slice a (eU G.tr).length c) (eU G.tr).length (pM (eU G.tr))∧ag ak w w':=by
 obtain⟨n,hn⟩:∃n,G.tr.length=n:=⟨_,rfl⟩
 obtain⟨pa,pc,Ak⟩:=hL.log.uZ hn
 have v2:w.cell? ⟨bv,2,none⟩=some (.slice pa n pc):=by rw[←Ak];exact hL.cZ.cell 2
 have HX:Hid (∀i,i<n→∃g b x,G.tr[i]?=some x∧pa=some ⟨g,0,none⟩∧w.cell? ⟨g,i,none⟩=some (.pointer (some ⟨b,0,none⟩))∧ai w b (Tg.cells x) 105∧x.t.sym.size≤100000):=by
  intro i hi
  have hi':i<G.tr.length:=by omega
  obtain⟨g,cap,b,h1,h2,_,h4⟩:=hL.log.at (List.getElem?_eq_getElem hi')
  rw[Ak]at h1
  simp only[Value.slice.injEq]at h1
  exact⟨g,b,_,List.getElem?_eq_getElem hi',h1.1,h2,h4,hsy _ (List.getElem_mem hi')⟩
 rw[hn]at hlen
 obtain⟨H,hH⟩:∃H:Nat→List Tr,H=fun i=>eU (G.tr.take i):=⟨_,rfl⟩
 have HS:Hid (∀i x,G.tr[i]?=some x→H (i+1)=H i++(if x.holds then [x.t] else [])):=fun i x hx=>by rw[hH];exact xU _ _ _ hx
 have hLn:∀i,(H i).length≤i:=fun i=>by rw[hH];exact xW _ _
 have HE:Hid (H n=eU G.tr):=by rw[hH];show eU (G.tr.take n)=_;rw[←hn,List.take_length]
 have H0:H 0=[]:=by rw[hH];rfl
 have HHG:=hide hH
 clear hL Ak hn hsy hH
 go_enter Tryz.func20,Tryz.ntmps20
 go_wp2
 go_loopg [3,5,11] n (fun k al _ iv wr=>∃i m:Nat,iv=.int .i64 (i:Int)∧i≤n∧m=(H i).length∧k=n-i∧wr.ownsRow w.heap.size 56 7 al m (pM (H i))∧ag ak w wr)
 case atStart=>exact⟨0,0,rfl,Nat.zero_le _,by rw[H0];rfl,rfl,by rw[H0];exact World.ownsRow_nil _ _ _ _,ag.refl _ _⟩
 case round =>
  obtain⟨i,m,rfl,hi,hmi,hgk,hrow,kr⟩:=hrel
  have XC:=hLn i
  obtain⟨xs,hxs⟩:∃xs,pM (H i)=xs:=⟨_,rfl⟩
  rw[hxs]at hrow
  have Qr:=hide hxs
  have HM:=hide hmi
  have hm1:m≤i:=by omega
  clear hxs hmi XC hLn
  by_cases hlt:i<n
  ·obtain⟨g,b,x,hx,rfl,c1,hb,hsz⟩:=ae HX i hlt
   have HN:=hide (ae HS i x hx)
   clear hx
   have c1':=kr.cell c1 (fun x=>x)
   have hb':=kr.blk hb (fun x=>x)
   have c7:wr.cell? ⟨b,7,none⟩=some (.bool x.holds):=hb'.cell 7
   have t0:wr.cell? ⟨b,0,none⟩=some (.int .i64 x.t.num):=hb'.cell 0
   have t1:wr.cell? ⟨b,1,none⟩=some (.string x.t.sym):=hb'.cell 1
   have t2:wr.cell? ⟨b,2,none⟩=some (.int .i64 x.t.price):=hb'.cell 2
   have t3:wr.cell? ⟨b,3,none⟩=some (.int .i64 x.t.qty):=hb'.cell 3
   have t4:wr.cell? ⟨b,4,none⟩=some (.int .i64 x.t.jh):=hb'.cell 4
   have t5:wr.cell? ⟨b,5,none⟩=some (.int .i64 x.t.sell):=hb'.cell 5
   have t6:wr.cell? ⟨b,6,none⟩=some (.int .i64 x.t.day):=hb'.cell 6
   have Nl:=hide hrow
   have HK:=hide kr
   clear hrow kr hb hb' c1
   cases hh:x.holds
   ·rw[hh]at c7
    go_wp2
    go_roundg (n-(i+1))
    case measure=>omega
    case rel =>
     have hN:=ae HN
     rw[hh]at hN
     simp only[Bool.false_eq_true,if_false,List.append_nil]at hN
     exact⟨i+1,m,by push_cast;rfl,by omega,by rw[hN];exact ae HM,rfl,by rw[hN,ae Qr];exact ae Nl,ae HK⟩
   ·rw[hh]at c7
    obtain⟨va,vc,rfl⟩:∃va vc,u3=.slice va m vc:=by
     rcases (ae Nl).2 with⟨h,h0⟩ | ⟨g,cap,cs,h,_⟩
     ·exact⟨none,0,by rw[h,h0]⟩
     ·exact⟨_,cap,h⟩
    have HH:=hide (qW x.t wr hsz)
    go_wp2_with fail
    refine (ae HH).mono ?_
    rintro e w2 ⟨rfl,k2⟩
    have hrow2:=au (ae Nl) k2 (fun _ _ x=>x)
    have hmx:m+1≤maxLen:=by unfold maxLen;omega
    have ik:(m+1) * 64≤140737488355328:=by omega
    obtain⟨i0,z0,hi0,hz0,hz1,hz2,hz3⟩:=Cf
    have hrow3:=hrow2.alloc (.cells #[.int .i64 x.t.num,.string x.t.sym,.int .i64 x.t.price,.int .i64 x.t.qty,.int .i64 x.t.jh,.int .i64 x.t.sell,.int .i64 x.t.day] 56)
    have hbs:w.heap.size≤w2.heap.size:=by have:=(ae HK).size;have:=k2.size;omega
    have HR3:=hide hrow3
    have jC:=hide ((ae HK).trans k2)
    have hone:∀u∈x.t.cells,u.oneCell'=true:=by simp[Tr.cells,Value.oneCell']
    clear hrow2 hrow3 k2 c7 t0 t1 t2 t3 t4 t5 t6 c1'
    simp only[Tr.val]
    go_wp2_with (at_builtin;refine wpList_append_own _ rfl _ _ 39 rfl w.heap.size 56 i0 z0 7 64 Tryz.underlying39 hi0 hz0 hz1 hz2 hz3 (by decide) _ m xs rfl (ae HR3) ⟨w2.heap.size,0,none⟩ 1 1 x.t.cells rfl rfl (X9 _ _) hone hmx ik (by simp;omega) ?_;intro v' w4 hown' hgrow hnil;clear hnil)
    change (w2.alloc _).grownBy w4 (Value.slice va m vc).ownBlock at hgrow
    go_wp2
    go_roundg (n-(i+1))
    case measure=>omega
    case rel =>
     have hN:=ae HN
     rw[hh]at hN
     simp only[if_true]at hN
     refine⟨i+1,m+1,by push_cast;rfl,by omega,by rw[hN,List.length_append,←ae HM];rfl,rfl,by rw[hN,Hw,ae Qr];exact hown',?_⟩
     refine ag.grown ((ae jC).alloc _) hgrow (fun k e=>.inr ?_)
     rcases (ae HR3).2 with⟨h,_⟩ | ⟨g2,cap2,cs2,h,hg2,_⟩
     ·simp only[Value.slice.injEq]at h
      rw[h.1]at e
      exact absurd e (by simp[Value.ownBlock])
     ·simp only[Value.slice.injEq]at h
      rw[h.1]at e
      have e':g2=k:=by simpa [Value.ownBlock] using e
      omega
  ·obtain rfl:i=n:=by omega
   obtain⟨va,vc,rfl⟩:∃va vc,u3=.slice va m vc:=by
    rcases hrow.2 with⟨h,h0⟩ | ⟨g,cap,cs,h,_⟩
    ·exact⟨none,0,by rw[h,h0]⟩
    ·exact⟨_,cap,h⟩
   go_wp2
   go_ret
   rw[←ae HE,←ae HM,ae Qr]
   exact⟨_,_,rfl,hrow,kr⟩
theorem N7(l:List Tr):pM l=mf l:=rfl
theorem U0{w:World}{base e size m:Nat}{v:Value}{xs:List Value}(h:w.ownsRow base e size v m xs){k:Nat}(hk:v.ownBlock=some k):base≤k:=(h.lt k hk).1
def WJ(lg:Lg):Prop:=∀r∈lg.tp,r.t.sym.size≤100000
theorem Hq(g off m c:Nat)(news:List Value)(w:World)(hm:0<m)(hm2:m≤1000000000)(hl:news.length=m * 9)(hnews:∀j u,news[j]?=some u→w.cell? (Addr.add ⟨g,off,none⟩ j)=some u)(hone:∀u∈news,u.oneCell'=true) :
 Calls Tryz.prog 42 #[.slice (some ⟨g,off,none⟩) m c] w fun e w'=>∃g' cap',e=.returned (.slice (some ⟨g',0,none⟩) m cap')∧w'.ownsRow w.heap.size 62 9 (.slice (some ⟨g',0,none⟩) m cap') m news∧ag ak w w':=by
 have qT:∀(w:World) (a:Option Addr) (n c n' c':Nat),(binOp .eql 34 (.slice a n c) (.slice none n' c')).run Tryz.prog w=.ok (.bool a.isNone) w:=fun w a n c n' c'=>Lib.run_eql_slice_nil w _ _ a n c n' c' Tryz.underlying34
 obtain⟨i0,z0,hi0,hz0,hz1,hz2,hz3⟩:=iQ
 have hmx:0+m≤maxLen:=by unfold maxLen;omega
 have ik:(0+m) * 80≤140737488355328:=by omega
 have HR:=hide (World.ownsRow_made (base:=w.heap.size) (e:=62) (size:=9) w #[] 0 (Nat.le_refl _) (by decide) rfl)
 have HN:Hid (∀j u,news[j]?=some u→(w.alloc (.cells #[] 62)).cell? (Addr.add ⟨g,off,none⟩ j)=some u):=fun j u hj=>by
  exact ((ag.refl ak w).alloc _).cell (hnews j u hj) (fun x=>x)
 clear hnews
 go_enter Tryz.func42,Tryz.ntmps42
 go_wp2_with (at_builtin;refine wpList_append_own _ rfl _ _ 34 rfl w.heap.size 62 i0 z0 9 80 Tryz.underlying34 hi0 hz0 hz1 hz2 hz3 (by decide) _ 0 [] rfl (ae HR) ⟨g,off,none⟩ m c news rfl hl (ae HN) hone hmx ik (by simp) ?_;intro v' w4 hown' hgrow hnil;clear hnil)
 rw[Nat.zero_add,List.nil_append]at hown'
 change (w.alloc _).grownBy w4 (Value.slice (some ⟨w.heap.size,0,none⟩) 0 0).ownBlock at hgrow
 obtain⟨g',cap',rfl⟩:=Dc hown' hm
 go_wp2
 go_ret
 refine⟨g',cap',rfl,hown',?_⟩
 exact ((ag.refl ak w).alloc _).grown hgrow (fun k e=>.inr (by simp only[Value.ownBlock,Option.some.injEq]at e;omega))
theorem N8:∀(rs:List Rc) (i:Nat) (r:Rc) (j:Nat) (u:Value),rs[i]?=some r→r.cells[j]?=some u→(dP rs)[i * 9+j]?=some u:=by
 intro rs
 induction rs with
 | nil=>intro i r j u h;simp at h
 | cons x rs ih =>
   intro i r j u h hu
   have hl:x.cells.length=9:=rfl
   have hj:j<9:=by
    have:=(List.getElem?_eq_some_iff.1 hu).1
    simpa [Rc.cells] using this
   show (x.cells++dP rs)[i * 9+j]?=some u
   cases i with
   | zero =>
     simp only[List.getElem?_cons_zero,Option.some.injEq]at h
     subst h
     rw[List.getElem?_append_left (by rw[hl];omega)]
     simpa using hu
   | succ i =>
     simp only[List.getElem?_cons_succ]at h
     rw[List.getElem?_append_right (by rw[hl];omega),hl]
     have e:(i+1) * 9+j-9=i * 9+j:=by omega
     rw[e]
     exact ih i r j u h hu
theorem KP(rs:List Rc):∀u∈dP rs,u.oneCell'=true:=by
 intro u hu
 obtain⟨r,_,h⟩:=List.mem_flatMap.1 hu
 simp only[Rc.cells,List.mem_cons,List.not_mem_nil,or_false]at h
 rcases h with h | h | h | h | h | h | h | h | h <;> rw[h] <;> rfl
theorem xK:∀(p:Nat) (rs:List Rc),dP (rs.drop p)=(dP rs).drop (p * 9)
 | 0,rs=>by simp
 | p+1,[]=>by simp[dP]
 | p+1,r :: rs=>by
   rw[List.drop_succ_cons,xK p rs]
   show _=(r.cells++dP rs).drop _
   have e:(p+1) * 9=r.cells.length+p * 9:=by
    have:r.cells.length=9:=rfl
    omega
   rw[e,←List.drop_drop,List.drop_left]
theorem lM{w:World}{base e size n g cap:Nat}{xs:List Value}(h:w.ownsRow base e size (.slice (some ⟨g,0,none⟩) n cap) n xs){j:Nat}{u:Value}(hj:xs[j]?=some u):(w.setCell ⟨g,j,none⟩ u).ownsRow base e size (.slice (some ⟨g,0,none⟩) n cap) n xs:=by
 have:=(h.stored j u).1
 have e:xs.set j u=xs:=by
  obtain⟨hl,e⟩:=List.getElem?_eq_some_iff.1 hj
  rw[←e];exact List.set_getElem_self hl
 rw[e]at this
 exact this
theorem PS(bv bm bo p:Nat)(fr:Int)(G:Lg)(lm:Lm)(w:World)(hL:aK w bv bm bo G lm)(hty:WJ G)(hlen:G.tp.length≤1000000000)(hp:(fr≤0∧p=0)∨fr=(p:Int)+1)(hp2:p<9223372036854775807) :
 Calls Tryz.prog 17 #[.pointer (some ⟨bv,0,none⟩),.int .i64 fr] w fun e w'=>∃a c,e=.returned (.slice a (G.tp.drop p).length c)∧w'.ownsRow w.heap.size 62 9 (.slice a (G.tp.drop p).length c) (G.tp.drop p).length (dP (G.tp.drop p))∧ag ak w w':=by
 obtain⟨n,hn⟩:∃n,G.tp.length=n:=⟨_,rfl⟩
 obtain⟨pa,pc,hpv⟩:=az hL.log.fU
 rw[hn]at hpv hlen
 have v3:w.cell? ⟨bv,3,none⟩=some (.slice pa n pc):=by rw[←hpv];exact hL.cZ.cell 3
 have hmax:max fr 1=(p:Int)+1:=by rcases hp with⟨h,rfl⟩ | rfl <;> omega
 by_cases hnp:n≤p
 ·have e0:G.tp.drop p=[]:=List.drop_eq_nil_of_le (by omega)
  rw[e0]
  have hgt:decide ((n:Int)<(p:Int)+1)=true:=by simp;omega
  clear hL hpv
  go_enter Tryz.func17,Tryz.ntmps17
  go_wp2
  go_ret
  exact⟨none,0,rfl,World.ownsRow_nil _ _ _ _,ag.refl _ _⟩
 ·obtain⟨m,hm⟩:∃m,(G.tp.drop p).length=m:=⟨_,rfl⟩
  have hmn:n=p+m:=by rw[List.length_drop]at hm;omega
  have hm0:0<m:=by omega
  obtain⟨g,rfl⟩:∃g,pa=some ⟨g,0,none⟩:=by
   rcases hL.log.fU.2 with⟨h,h0⟩ | ⟨g,cap,cs,h,_⟩
   ·omega
   ·rw[hpv]at h;injection h with h1 _ _;exact⟨g,h1⟩
  have hcell:∀j u,(dP (G.tp.drop p))[j]?=some u→w.cell? (Addr.add ⟨g,p * 9,none⟩ j)=some u:=fun j u hj=>by
   rw[xK,List.getElem?_drop]at hj
   have h:=hL.log.fU.cells (g:=g) (by rw[hpv];rfl) _ u hj
   have e1:Addr.add ⟨g,0,none⟩ (p * 9+j)=Addr.add ⟨g,p * 9,none⟩ j:=by by_cases h1:j=0 <;> by_cases h2:p=0 <;> simp[Addr.add,h1,h2] <;> omega
   rw[e1]at h
   exact h
  have hpc:n≤pc:=by
   rcases hL.log.fU.2 with⟨h,h0⟩ | ⟨g,cap,cs,h,_,_,h2,_⟩
   ·omega
   ·rw[hpv]at h;injection h with _ _ h3;rw[h3];omega
  have HC:=hide (fun (c:Nat)=>Hq g (p * 9) m c (dP (G.tp.drop p)) w hm0 (by omega) (by rw[BR,hm]) hcell (KP _))
  have HX:Hid (∀i,i<m→∃r:Rc,r.t.sym.size≤100000∧∀j u,r.cells[j]?=some u→(dP (G.tp.drop p))[i * 9+j]?=some u):=fun i hi=>by
   have hi':i<(G.tp.drop p).length:=by omega
   exact⟨(G.tp.drop p)[i],hty _ (List.mem_of_mem_drop (List.getElem_mem hi')),fun j u hu=>N8 _ i _ j u (List.getElem?_eq_getElem hi') hu⟩
  obtain⟨xs,hxs⟩:∃xs,dP (G.tp.drop p)=xs:=⟨_,rfl⟩
  rw[hm,hxs]
  rw[hxs]at HC HX
  have hgt:decide ((n:Int)<(p:Int)+1)=false:=by simp;omega
  clear hL hpv hcell hxs hm hty hn hp
  go_enter Tryz.func17,Tryz.ntmps17
  go_wp2_with fail
  refine (ae HC _).mono ?_
  rintro e w2 ⟨g',cap',rfl,hrow,k2⟩
  go_wp2
  go_loopg [6,7,27] m (fun k _ _ iv wr=>∃i:Nat,iv=.int .i64 (i:Int)∧i≤m∧k=m-i∧wr.ownsRow w.heap.size 62 9 (.slice (some ⟨g',0,none⟩) m cap') m xs∧ag ak w wr)
  case atStart=>exact⟨0,rfl,Nat.zero_le _,rfl,hrow,k2⟩
  case round =>
   clear hrow k2
   obtain⟨i,rfl,hi,hgk,hrow,kr⟩:=hrel
   by_cases hlt:i<m
   ·obtain⟨r,hsz,hx⟩:=ae HX i hlt
    have hc:∀j u,r.cells[j]?=some u→wr.cell? ⟨g',i * 9+j,none⟩=some u:=fun j u hu=>by
     have h9:j<9:=by have:=(List.getElem?_eq_some_iff.1 hu).1;simpa [Rc.cells] using this
     rw[hrow.cellAt _ (by omega)];exact hx j u hu
    have c0:wr.cell? ⟨g',i * 9,none⟩=some (.int .i64 r.num):=hc 0 _ rfl
    have c1:wr.cell? ⟨g',i * 9+1,none⟩=some (.int .i64 r.kind):=hc 1 _ rfl
    have c2:wr.cell? ⟨g',i * 9+2,none⟩=some (.int .i64 r.t.num):=hc 2 _ rfl
    have c3:wr.cell? ⟨g',i * 9+3,none⟩=some (.string r.t.sym):=hc 3 _ rfl
    have c4:wr.cell? ⟨g',i * 9+4,none⟩=some (.int .i64 r.t.price):=hc 4 _ rfl
    have c5:wr.cell? ⟨g',i * 9+5,none⟩=some (.int .i64 r.t.qty):=hc 5 _ rfl
    have c6:wr.cell? ⟨g',i * 9+6,none⟩=some (.int .i64 r.t.jh):=hc 6 _ rfl
    have c7:wr.cell? ⟨g',i * 9+7,none⟩=some (.int .i64 r.t.sell):=hc 7 _ rfl
    have c8:wr.cell? ⟨g',i * 9+8,none⟩=some (.int .i64 r.t.day):=hc 8 _ rfl
    have HH:Hid (∀W,Calls Tryz.prog 43 #[.agg #[.int .i64 r.t.num,.string r.t.sym,.int .i64 r.t.price,.int .i64 r.t.qty,.int .i64 r.t.jh,.int .i64 r.t.sell,.int .i64 r.t.day]] W fun e w'=>e=.returned r.t.val∧ag ak W w'):=fun W=>qW r.t W hsz
    have Nl:=hide hrow
    have HK:=hide kr
    have HXI:=hide hx
    clear hrow kr hc hx
    go_wp2_with fail
    refine (ae HH _).mono ?_
    rintro e w3 ⟨rfl,k3⟩
    have kr3:ag ak wr w3:=ag.trans (by repeat (first | exact ag.refl _ _ | refine ag.setCell ?_ _ _ | refine ag.alloc ?_ _)) k3
    have row3:=au (ae Nl) kr3 (fun _ _ x=>x)
    have hc3:∀j u,r.cells[j]?=some u→w3.cell? ⟨g',i * 9+j,none⟩=some u:=fun j u hu=>by
     have h9:j<9:=by have:=(List.getElem?_eq_some_iff.1 hu).1;simpa [Rc.cells] using this
     rw[row3.cellAt _ (by omega)];exact ae HXI j u hu
    have d2:w3.cell? ⟨g',i * 9+2,none⟩=some (.int .i64 r.t.num):=hc3 2 _ rfl
    have d3:w3.cell? ⟨g',i * 9+3,none⟩=some (.string r.t.sym):=hc3 3 _ rfl
    have d4:w3.cell? ⟨g',i * 9+4,none⟩=some (.int .i64 r.t.price):=hc3 4 _ rfl
    have d5:w3.cell? ⟨g',i * 9+5,none⟩=some (.int .i64 r.t.qty):=hc3 5 _ rfl
    have d6:w3.cell? ⟨g',i * 9+6,none⟩=some (.int .i64 r.t.jh):=hc3 6 _ rfl
    have d7:w3.cell? ⟨g',i * 9+7,none⟩=some (.int .i64 r.t.sell):=hc3 7 _ rfl
    have d8:w3.cell? ⟨g',i * 9+8,none⟩=some (.int .i64 r.t.day):=hc3 8 _ rfl
    have f2:=row3.frozenAt (i * 9+2)
    have f3:=row3.frozenAt (i * 9+3)
    have f4:=row3.frozenAt (i * 9+4)
    have f5:=row3.frozenAt (i * 9+5)
    have f6:=row3.frozenAt (i * 9+6)
    have f7:=row3.frozenAt (i * 9+7)
    have f8:=row3.frozenAt (i * 9+8)
    have hgb:=U0 row3 (k:=g') rfl
    have HR3:=hide row3
    have lV:=hide ((ae HK).trans kr3)
    clear row3 hc3 k3 kr3 c0 c1 c2 c3 c4 c5 c6 c7 c8
    simp only[Tr.val]
    go_wp2
    go_roundg (m-(i+1))
    case measure=>omega
    case rel =>
     have hx:=ae HXI
     refine⟨i+1,by push_cast;rfl,by omega,rfl,?_,?_⟩
     ·exact lM (lM (lM (lM (lM (lM (lM (ae HR3) (hx 2 _ rfl)) (hx 3 _ rfl)) (hx 4 _ rfl)) (hx 5 _ rfl)) (hx 6 _ rfl)) (hx 7 _ rfl)) (hx 8 _ rfl)
     ·exact (((((((ae lV).setCell (p:=⟨g',i * 9+2,none⟩) (.inr hgb) _).setCell (p:=⟨g',i * 9+3,none⟩) (.inr hgb) _).setCell (p:=⟨g',i * 9+4,none⟩) (.inr hgb) _).setCell (p:=⟨g',i * 9+5,none⟩) (.inr hgb) _).setCell (p:=⟨g',i * 9+6,none⟩) (.inr hgb) _).setCell (p:=⟨g',i * 9+7,none⟩) (.inr hgb) _).setCell (p:=⟨g',i * 9+8,none⟩) (.inr hgb) _
   ·obtain rfl:i=m:=by omega
    go_wp2
    go_ret
    exact⟨_,_,rfl,hrow,kr⟩
end Go.Proofs.YtigaphnafnpfnaaGreatDoor
namespace Go.Proofs.YtigaphnafnpfnaaGreatDoor
open Go.RowKit
theorem bF.YF{p:Nat→Nat}{V V':aW}{S S':RS}{N:Nat}(h:bF p V S N)(gw:GW V' (mN N))(hnb:V'.nb=V.nb)(hBs:∀j,(V'.B j).sym=(V.B j).sym)(hpl:∀j,(V'.B j).places=(V.B j).places)(hno:V'.no=V.no)(Ib:V'.aO=V.aO)
 (hsy:S'.sy=S.sy) (hlen:S'.l.length=S.l.length) (hps:S'.places=S.places) (ht:S'.t=S.t) (hd:S'.day=S.day) (same:∀k,k<S.l.length→jV (V'.om (p k))=jV (ah S'.l k))
 (stat:∀k,k<S.l.length→(ah S'.l k).id=(ah S.l k).id∧(ah S'.l k).sym=(ah S.l k).sym∧(ah S'.l k).place=(ah S.l k).place∧(0<(ah S'.l k).opn→0<(ah S.l k).opn)∧(V'.om (p k)).place=(V.om (p k)).place)
 (htr:V'.lg.tr=V.lg.tr) (htp:V'.lg.tp=V.lg.tp) (hdy:V'.lg.day=V.lg.day) (hna:V'.lg.na=V.lg.na):bF p V' S' N:=by
 refine⟨gw,by rw[hnb,hsy];exact h.nb,fun i hi=>by rw[hsy,hBs i];exact h.sym i (by omega),by rw[hno,hlen];exact h.no,fun k hk=>?_,fun id b hb=>?_,fun a b ha hb=>h.inj a b (by omega) (by omega),fun k hk=>same k (by omega),fun a b ha hb hs h1 h2=>?_,fun a b ha hb hab hs h1 h2=>?_,fun k hk h0 i hi hs=>?_,fun k hk h0=>?_,fun i hi=>?_,?_,by rw[htr,ht];exact h.tr,by rw[hdy,hd];exact h.day,by rw[htr];have:=h.Bl;omega,by rw[htp];have:=h.tpN;omega,by rw[hna];have:=h.zG;omega,by rw[hno];exact h.eF,by rw[hnb];exact h.OZ,fun k hk=>by rw[(stat k (by omega)).1];exact h.ids k (by omega)⟩
 ·rw[Ib,(stat k (by omega)).1];exact h.aO k (by omega)
 ·rw[Ib]at hb
  obtain⟨k,hk,e1,e2⟩:=h.yD id b hb
  exact⟨k,by omega,by rw[(stat k hk).1];exact e1,e2⟩
 ·obtain⟨_,a2,a3,a4,a5⟩:=stat a (by omega)
  obtain⟨_,b2,b3,b4,b5⟩:=stat b (by omega)
  rw[a5,b5,a3,b3]
  exact h.place a b (by omega) (by omega) (by rw[←a2,←b2];exact hs) (a4 h1) (b4 h2)
 ·obtain⟨_,a2,a3,a4,a5⟩:=stat a (by omega)
  obtain⟨_,b2,b3,b4,b5⟩:=stat b (by omega)
  rw[a3,b3]
  exact h.uz a b (by omega) (by omega) hab (by rw[←a2,←b2];exact hs) (a4 h1) (b4 h2)
 ·obtain⟨_,a2,a3,a4,a5⟩:=stat k (by omega)
  rw[a5,hpl i]
  exact h.LM k (by omega) (a4 h0) i (by omega) (by rw[←hBs i,hs,a2])
 ·obtain⟨_,a2,a3,a4,a5⟩:=stat k (by omega)
  rw[a3,hps]
  exact h.LQ k (by omega) (a4 h0)
 ·rw[hpl i]
  exact h.GU i (by omega)
 ·rw[hps]
  exact h.Pq
theorem Ky{S:RS}{j:Nat}{q:Int}(hj:j<S.l.length)(o:Ask):(dD (S.iU j q).l o).isNone=(dD S.l o).isNone:=by
 have nk:∀a,ah (S.iU j q).l a=if a=j then nM (ah S.l j) q else ah S.l a:=fun a=>by
  simp only[RS.iU,RS.cu]
  exact dG hj a
 have hl:(S.iU j q).l.length=S.l.length:=by simp[RS.iU,RS.cu]
 have hg:∀a,dK o (ah (S.iU j q).l a)=dK o (ah S.l a):=fun a=>by
  rw[nk a]
  by_cases e:a=j
  ·rw[if_pos e,e];rfl
  ·rw[if_neg e]
 rw[Bool.eq_iff_iff,Option.isNone_iff_eq_none,Option.isNone_iff_eq_none]
 unfold dD
 rw[jk,jk,hl]
 constructor
 ·intro h k hk;rw[←hg k];exact h k hk
 ·intro h k hk;rw[hg k];exact h k hk
theorem bF.WQ{p:Nat→Nat}{V:aW}{S:RS}{N:Nat}(h:bF p V S N){j i s t:Nat}{q:Int}{again:Bool}(hj:j<S.l.length)(hi:i<V.nb)(hs:s<2)(hst:t=1-s)(hsb:(V.om (p j)).sym=(V.B i).sym)(hside:(V.om (p j)).side=(t:Int)) :
 S.back j q again=(again && (di (V.om (p j)).kind && (bK (V.B i) V.om (aV (V.om (p j))) s).isNone)):=by
 have e:=h.same j hj
 obtain⟨e1,e2,e3,e4,e5,e6,e7,e8,e9,e10,e11,e12⟩:=dI e
 have hc:=h.cross (o:=aV (ah S.l j)) hi hs hst (by show (ah S.l j).sym=_;rw[←e3];exact hsb) (by show (ah S.l j).side=_;rw[←e4];exact hside)
 unfold RS.back
 rw[Ky hj,JM e,e5]
 congr 2
 rw[←Option.not_isSome,←Option.not_isSome,hc]
theorem bF.bf{p:Nat→Nat}{V V':aW}{S:RS}{N:Nat}(h:bF p V S N)(hN:N<3000000){j i s t:Nat}{q P:Int}{again:Bool}(hj:j<S.l.length)(hi:i<V.nb)(hs:s<2)(hst:t=1-s)(hsb:(V.om (p j)).sym=(V.B i).sym)(hside:(V.om (p j)).side=(t:Int))
 (hP:∀a,a<V.nb→(V.B a).places≤P) (Y4:S.places≤P) (hP2:P+1≤2 * (N:Int)) (hq:1≤q) (hq2:q≤(V.om (p j)).filled) (tb:WI V (mN N) i s (p j) q again V') (lk:Vm V.lg V'.lg 3) :
 bF p V' (S.bf j q again) N∧(∀a,a<V'.nb→(V'.B a).places≤P+1)∧(S.bf j q again).places≤P+1∧(S.bf j q again).told=S.told∧(S.bf j q again).l.length=S.l.length:=by
 have hbk:=h.WQ (q:=q) (again:=again) hj hi hs hst hsb hside
 have es:=h.same j hj
 obtain⟨e1,e2,e3,e4,e5,e6,e7,e8,e9,e10,e11,e12⟩:=dI es
 obtain⟨l1,l2,l3,l4,l5⟩:=lk
 have Df:∀a,a<S.l.length→a≠j→p a≠p j:=fun a ha e e2=>e (h.inj a j ha hj e2)
 have hpi:=h.GU i hi
 have hps:=h.Pq
 have hv:VL V (p j):=(h.vl _).2 ⟨j,hj,rfl⟩
 have q1:=(h.gw.q _ hv).sum;have q2:=(h.gw.q _ hv).o0;have q3:=(h.gw.q _ hv).f0;have q4:=(h.gw.q _ hv).c0;have q5:=(h.gw.q _ hv).e0;have q6:=(h.gw.q _ hv).hi
 have hmN:mN N≤1000000000000000:=by unfold mN;omega
 rcases tb.way with⟨hc,oL,hpl⟩ | ⟨ha,hr,hf,oL,hpl⟩
 ·have hb0:S.back j q again=false:=by
   rw[hbk]
   rcases hc with hc | hc | hc
   ·rw[hc];rfl
   ·rw[hc];simp
   ·have:(bK (V.B i) V.om (aV (V.om (p j))) s).isNone=false:=by rw[←Option.not_isSome,hc];rfl
    rw[this];simp
  have hS:S.bf j q again=S.cu j { nM (ah S.l j) q with aG:=wrap64 ((ah S.l j).aG+q) }:=by
   unfold RS.bf;rw[hb0];simp
  rw[hS]
  have nk:∀a,ah (S.cu j { nM (ah S.l j) q with aG:=wrap64 ((ah S.l j).aG+q) }).l a=if a=j then { nM (ah S.l j) q with aG:=wrap64 ((ah S.l j).aG+q) } else ah S.l a:=fun a=>by
   simp only[RS.cu]
   exact dG hj a
  refine⟨h.YF tb.gw tb.nb tb.lX hpl tb.no tb.aO rfl (by simp[RS.cu]) rfl rfl rfl (fun a ha=>?_) (fun a ha=>?_) l1 l2 l3 l4,fun a ha=>?_,?_,rfl,by simp[RS.cu]⟩
  ·rw[oL,nk a]
   by_cases e:a=j
   ·rw[e,upd_same,if_pos rfl]
    show dN (jV (V.om (p j))) q=dN (jV (ah S.l j)) q
    rw[es]
   ·rw[af _ _ (Df a ha e),if_neg e]
    exact h.same a ha
  ·rw[oL,nk a]
   by_cases e:a=j
   ·rw[e,upd_same,if_pos rfl]
    exact⟨rfl,rfl,rfl,fun h=>h,rfl⟩
   ·rw[af _ _ (Df a ha e),if_neg e]
    exact⟨rfl,rfl,rfl,fun h=>h,rfl⟩
  ·rw[hpl a];have:=hP a (by rw[←tb.nb];exact ha);omega
  ·show S.places≤_;omega
 ·have hb1:S.back j q again=true:=by
   rw[hbk,ha,hr,hf];rfl
  have hS:S.bf j q again=(S.iU j q).stand j q:=by
   unfold RS.bf;rw[hb1];simp
  rw[hS]
  have wb:wrap64 ((V.B i).places+1)=(V.B i).places+1:=aF (by omega) (by omega)
  have ws:wrap64 (S.places+1)=S.places+1:=aF (by omega) (by omega)
  have hu:ah (S.iU j q).l j=nM (ah S.l j) q:=by simp only[RS.iU,RS.cu];rw[dG hj,if_pos rfl]
  have hl:((S.iU j q).stand j q).l.length=S.l.length:=by simp[RS.stand,RS.iU,RS.cu]
  have nk:∀a,ah ((S.iU j q).stand j q).l a=if a=j then { nM (ah S.l j) q with place:=S.places+1,opn:=wrap64 ((ah S.l j).opn+q) } else ah S.l a:=fun a=>by
   simp only[RS.stand]
   rw[hu]
   simp only[RS.iU,RS.cu,List.set_set]
   rw[dG hj a,ws]
   rfl
  have Ur:((S.iU j q).stand j q).places=S.places+1:=by
   show wrap64 (S.places+1)=_
   exact ws
  have VC:∀a,a<S.l.length→a≠j→V'.om (p a)=V.om (p a):=fun a ha e=>by rw[oL];exact pg V i (p j) q (Df a ha e)
  have Zm:V'.om (p j)={ fG (V.om (p j)) q with place:=(V.B i).places+1 }:=by rw[oL,dm,wb]
  have FO:∀k,k<S.l.length→k≠j→0<(ah S.l k).opn→(ah S.l k).sym=(V.B i).sym→(V.om (p k)).place≤(V.B i).places∧(ah S.l k).place≤S.places:=fun k hk e h0 hsy=>⟨h.LM k hk h0 i hi hsy.symm,h.LQ k hk h0⟩
  have PO:(ah S.l j).sym=(V.B i).sym:=by rw[←e3];exact hsb
  refine⟨⟨tb.gw,by rw[tb.nb];exact h.nb,fun a ha=>by rw[tb.lX a];exact h.sym a (by rw[←tb.nb];exact ha),by rw[tb.no,hl];exact h.no,fun k hk=>?_,fun id b hb=>?_,fun a b ha hb=>h.inj a b (by omega) (by omega),fun k hk=>?_,fun a b ha hb hsy h1 h2=>?_,fun a b ha hb hab hsy h1 h2=>?_,fun k hk h0 a ha hsy=>?_,fun k hk h0=>?_,fun a ha=>?_,?_,by rw[l1];exact h.tr,by rw[l3];exact h.day,by rw[l1];exact h.Bl,by rw[l2];exact h.tpN,by rw[l4];exact h.zG,by rw[tb.no];exact h.eF,by rw[tb.nb];exact h.OZ,fun k hk=>?_⟩,fun a ha=>?_,by rw[Ur];omega,rfl,hl⟩
  ·rw[hl]at hk
   rw[tb.aO,nk k]
   by_cases e:k=j
   ·rw[if_pos e,e];exact h.aO j hj
   ·rw[if_neg e];exact h.aO k hk
  ·rw[tb.aO]at hb
   obtain⟨k,hk,x1,x2⟩:=h.yD id b hb
   refine⟨k,by rw[hl];exact hk,?_,x2⟩
   rw[nk k]
   by_cases e:k=j
   ·rw[if_pos e];rw[e]at x1;exact x1
   ·rw[if_neg e];exact x1
  ·rw[hl]at hk
   rw[nk k]
   by_cases e:k=j
   ·rw[if_pos e,e,Zm]
    show fG (jV (V.om (p j))) q=fG (jV (ah S.l j)) q
    rw[es]
   ·rw[if_neg e,VC k hk e];exact h.same k hk
  ·rw[hl]at ha hb
   rw[nk a]at hsy h1 ⊢
   rw[nk b]at hsy h2 ⊢
   by_cases ea:a=j <;> by_cases eb:b=j
   ·rw[ea,eb];exact⟨fun h=>by omega,fun h=>by omega⟩
   ·rw[if_neg eb]at hsy h2 ⊢
    rw[if_pos ea]at hsy ⊢
    obtain⟨o1,o2⟩:=FO b hb eb h2 (by rw[←hsy];exact PO)
    rw[ea,Zm,VC b hb eb]
    show (V.B i).places+1<(V.om (p b)).place↔S.places+1<(ah S.l b).place
    omega
   ·rw[if_neg ea]at hsy h1 ⊢
    rw[if_pos eb]at hsy ⊢
    obtain⟨o1,o2⟩:=FO a ha ea h1 (by rw[hsy];exact PO)
    rw[eb,Zm,VC a ha ea]
    show (V.om (p a)).place<(V.B i).places+1↔(ah S.l a).place<S.places+1
    omega
   ·rw[if_neg ea]at hsy h1 ⊢
    rw[if_neg eb]at hsy h2 ⊢
    rw[VC a ha ea,VC b hb eb]
    exact h.place a b ha hb hsy h1 h2
  ·rw[hl]at ha hb
   rw[nk a]at hsy h1 ⊢
   rw[nk b]at hsy h2 ⊢
   by_cases ea:a=j <;> by_cases eb:b=j
   ·omega
   ·rw[if_neg eb]at hsy h2 ⊢
    rw[if_pos ea]at hsy ⊢
    obtain⟨o1,o2⟩:=FO b hb eb h2 (by rw[←hsy];exact PO)
    show S.places+1≠(ah S.l b).place
    omega
   ·rw[if_neg ea]at hsy h1 ⊢
    rw[if_pos eb]at hsy ⊢
    obtain⟨o1,o2⟩:=FO a ha ea h1 (by rw[hsy];exact PO)
    show (ah S.l a).place≠S.places+1
    omega
   ·rw[if_neg ea]at hsy h1 ⊢
    rw[if_neg eb]at hsy h2 ⊢
    exact h.uz a b ha hb hab hsy h1 h2
  ·rw[hl]at hk
   rw[tb.nb]at ha
   rw[tb.lX a]at hsy
   rw[nk k]at hsy h0
   rw[hpl a]
   by_cases e:k=j
   ·rw[if_pos e]at hsy
    have ej:a=i:=h.gw.kG a i ha hi (by rw[hsy];exact PO)
    rw[e,Zm,if_pos ej,wb]
    show (V.B i).places+1≤(V.B i).places+1
    omega
   ·rw[if_neg e]at hsy h0
    rw[VC k hk e]
    have:=h.LM k hk h0 a ha hsy
    split
    ·rename_i hx;rw[hx]at this;rw[wb];omega
    ·exact this
  ·rw[hl]at hk
   rw[nk k]at h0 ⊢
   rw[Ur]
   by_cases e:k=j
   ·rw[if_pos e];show S.places+1≤_;omega
   ·rw[if_neg e]at h0 ⊢
    have:=h.LQ k hk h0
    omega
  ·rw[tb.nb]at ha
   rw[hpl a]
   have:=h.GU a ha
   have:=hP i hi
   split
   ·rw[wb];omega
   ·omega
  ·rw[Ur];omega
  ·rw[hl]at hk
   rw[nk k]
   by_cases e:k=j
   ·rw[if_pos e];exact h.ids j hj
   ·rw[if_neg e];exact h.ids k hk
  ·rw[tb.nb]at ha
   rw[hpl a]
   have:=hP a ha
   have:=hP i hi
   split
   ·rw[wb];omega
   ·omega
theorem WI.fl{V V':aW}{M:Int}{i s b:Nat}{q id:Int}{again:Bool}{hl:List Tr}{ex NS:Int→Int}(tb:WI V M i s b q again V')(f:FL V.om V.aO hl ex)(hid:V.aO id=some b)(hM:M≤1000000000000000)(hQ:Qo M (V.om b))(hq:1≤q)(hq2:q≤(V.om b).filled)(e1:NS id=ex id-q)(e2:∀j,j≠id→NS j=ex j):FL V'.om V'.aO hl NS:=by
 rw[tb.aO]
 rcases tb.way with⟨_,oL,_⟩ | ⟨_,_,_,oL,_⟩
 ·rw[oL]
  exact f.back hid (fun x h=>af _ _ h) (by rw[upd_same];rfl) (by rw[upd_same];rfl) (by rw[upd_same];rfl) (by rw[upd_same];exact (hQ.dN hM (by omega) hq2).2) e1 e2
 ·rw[oL]
  exact f.back hid (fun x h=>pg V i b q h) (by rw[dm];rfl) (by rw[dm];rfl) (by rw[dm];rfl) (by rw[dm];exact (hQ.fG hM (by omega) hq2 0).2.1) e1 e2
end Go.Proofs.YtigaphnafnpfnaaGreatDoor
