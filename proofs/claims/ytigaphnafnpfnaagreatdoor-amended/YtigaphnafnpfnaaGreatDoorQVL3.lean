import Derived.Test.YtigaphnafnpfnaaGreatDoorQVL2
import Derived.Test.YtigaphnafnpfnaaGreatDoorQVX1
set_option linter.unusedVariables false
set_option linter.unusedSimpArgs false
set_option maxHeartbeats 8000000
set_option maxRecDepth 100000
namespace Go.Proofs.YtigaphnafnpfnaaGreatDoor
open Go.RowKit
attribute [local go_sem ↓] Go.wp_at_zero Go.wp_at_succ
def Lg.stamp(G:Lg)(t:Tr):Tr:={ t with num:=(G.tr.length:Int)+1,day:=G.day }
def Lg.kept(G:Lg)(t:Tr):Lg:={ G with tr:=G.tr++[⟨G.stamp t,true⟩] }
def Lg.kM(G:Lg)(t:Tr):Lg:=((G.kept t).told 1 (G.stamp t)).aS [.Jf (G.stamp t)]
theorem Cj:∃i,Tryz.prog.info? 103=some i∧i.zero=some (.pointer none)∧i.size=1∧i.bytes=8:=by
 have h:=UE
 cases hi:Tryz.prog.info? 103 with
 | none=>rw[hi]at h;simp at h
 | some i=>rw[hi]at h;simp at h;exact⟨i,rfl,h.1,h.2.1,h.2.2⟩
theorem eP.Gz{w1 w2:World}{bv bm bo:Nat}{G:Lg}{m:Lm}(h:aK w1 bv bm bo G m){n H g cap nb:Nat}{x:Tg}(hn:G.tr.length=n)(hnb:ai w1 nb x.cells 105)(hnew:¬nb∈m.tb)(hown:w2.ownsRow 0 103 1 (.slice (some ⟨g,0,none⟩) (n+1) cap) (n+1) (m.tb.map qK++[qK nb]))(hgrow:w1.grownBy w2 m.tv.ownBlock)(hat:m.tv.ownBlock=some g∨g=H)(hH:w1.heap.size=H) :
 aK (w2.setCell ⟨bv,2,none⟩ (.slice (some ⟨g,0,none⟩) (n+1) cap)) bv bm bo { G with tr:=G.tr++[x] } { m with tv:=.slice (some ⟨g,0,none⟩) (n+1) cap,tb:=m.tb++[nb] } ∧
  (∀b,Lm.F { m with tv:=.slice (some ⟨g,0,none⟩) (n+1) cap,tb:=m.tb++[nb] } b→m.F b∨b=nb∨H≤b)∧ag (fun b=>b=bv∨m.tv.ownBlock=some b) w1 (w2.setCell ⟨bv,2,none⟩ (.slice (some ⟨g,0,none⟩) (n+1) cap)):=by
 have hb2:ai w2 bv (oM bm bo m G.day) 100:=(hgrow.block bv h.cZ.lt (fun e=>h.Hg (.inl e.symm))).trans h.cZ
 have k2:ag (fun b=>b=bv∨m.tv.ownBlock=some b) w1 (w2.setCell ⟨bv,2,none⟩ (.slice (some ⟨g,0,none⟩) (n+1) cap)) :=
  ((ag.refl _ w1).grown hgrow (fun k e=>.inl (.inr e))).setCell (p:=⟨bv,2,none⟩) (.inl (.inl rfl)) _
 have k3:ag (fun b=>b=bv) w2 (w2.setCell ⟨bv,2,none⟩ (.slice (some ⟨g,0,none⟩) (n+1) cap)):=(ag.refl (fun b=>b=bv) w2).setCell (p:=⟨bv,2,none⟩) (.inl rfl) _
 have far:∀{b c},ai w1 b c 105→¬(b=bv∨m.tv.ownBlock=some b):=by
  rintro b c hbk (e | e)
  ·exact ai.ne hbk h.cZ (by decide) e
  ·exact own_ne h.log.dE e hbk (by decide) rfl
 refine⟨⟨hb2.set 2 _,?_⟩,?_,k2⟩
 ·refine⟨?_,au h.log.fU k2 ?_,by simp[h.log.len],fun i b g hi hg=>?_,?_,h.log.act.kept k2 ?_,au h.log.mJ k2 ?_,h.log.jb⟩
  ·simp only[List.length_append,List.length_cons,List.length_nil,hn,List.map_append,List.map_cons,List.map_nil]
   exact au hown k3 (fun b hb e=>own_ne hown hb hb2 (by decide) e)
  ·rintro b hb (e | e)
   ·exact own_ne h.log.fU hb h.cZ (by decide) e
   ·obtain⟨cs,hc⟩:=ay h.log.dE e
    exact own_ne h.log.fU hb hc (by decide) rfl
  ·simp only at hi hg
   by_cases e:i<m.tb.length
   ·rw[List.getElem?_append_left e]at hi
    rw[List.getElem?_append_left (by rw[←h.log.len];exact e)]at hg
    have hbk:=h.log.blk i b g hi hg
    exact k2.blk hbk (far hbk)
   ·rw[List.getElem?_append_right (by omega)]at hi
    rw[List.getElem?_append_right (by rw[←h.log.len];omega),←h.log.len]at hg
    have e0:i-m.tb.length=0:=by
     rcases Nat.eq_zero_or_pos (i-m.tb.length) with e0 | e0
     ·exact e0
     ·rw[List.getElem?_eq_none (by simp;omega)]at hi;simp at hi
    rw[e0]at hi hg
    simp at hi hg
    subst hi;subst hg
    exact k2.blk hnb (far hnb)
  ·exact List.nodup_append.2 ⟨h.log.nodup,by simp,by rintro a ha b hb rfl;simp at hb;subst hb;exact hnew ha⟩
  ·intro b hb
   obtain⟨cs,t,hc,ht⟩:=h.log.act.typ hb
   rintro (e | e)
   ·exact ai.ne hc h.cZ (by rcases ht with rfl | rfl <;> decide) e
   ·exact own_ne h.log.dE e hc (by rcases ht with rfl | rfl <;> decide) rfl
  ·rintro b hb (e | e)
   ·exact own_ne h.log.mJ hb h.cZ (by decide) e
   ·obtain⟨cs,hc⟩:=ay h.log.dE e
    exact own_ne h.log.mJ hb hc (by decide) rfl
 ·rintro b (hb | hb | hb | hb)
  ·simp only[Value.ownBlock,Option.some.injEq]at hb
   rcases hat with e | e
   ·exact .inl (.inl (by rw[e,hb]))
   ·right;right;omega
  ·exact .inl (.inr (.inl hb))
  ·simp only[List.mem_append,List.mem_singleton]at hb
   rcases hb with hb | hb
   ·exact .inl (.inr (.inr (.inl hb)))
   ·exact .inr (.inl hb)
  ·exact .inl (.inr (.inr (.inr hb)))
theorem BH(bv bm bo:Nat)(G:Lg)(m:Lm)(t:Tr)(w:World)(hL:aK w bv bm bo G m)(hlen:G.tp.length<1000000000)(hlen2:G.tr.length<1000000000)(hna:0<G.na)(fF:G.na≤3000000)(hnf:G.nt.length+1<1000000000) :
 Calls Tryz.prog 178 #[.pointer (some ⟨bv,0,none⟩),t.val] w fun e w'=>e=.returned (.tuple #[]) ∧
  ∃m',aK w' bv bm bo (G.kM t) m'∧(∀b,m'.F b→m.F b∨w.heap.size≤b)∧ag (fun b=>b=bv∨m.F b) w w':=by
 obtain⟨n,hn⟩:∃n,G.tr.length=n:=⟨_,rfl⟩
 have ES:=hL.log.dE
 rw[hn]at ES hlen2
 obtain⟨pa,iL,Ak⟩:∃pa iL,m.tv=.slice pa n iL:=by
  rcases ES.2 with⟨h,h0⟩ | ⟨g,cap,cs,h,_⟩
  ·exact⟨none,0,by rw[h,h0]⟩
  ·exact⟨_,cap,h⟩
 rw[Ak]at ES
 have v2:w.cell? ⟨bv,2,none⟩=some (.slice pa n iL):=(hL.cZ.cell 2).trans (by rw[←Ak];rfl)
 have v4:w.cell? ⟨bv,4,none⟩=some (.int .i64 G.day):=hL.cZ.cell 4
 have lv:=hL.cZ.lt
 obtain⟨tn,ts,tp,tq,jd,jf,td⟩:=t
 simp only[Tr.val]
 obtain⟨w0,hw0⟩:∃w0,w0=((w.alloc (.cells #[.pointer (some ⟨bv,0,none⟩)] 35)).alloc (.cells #[.int .i64 ((n:Int)+1),.string ts,.int .i64 tp,.int .i64 tq,.int .i64 jd,.int .i64 jf,.int .i64 G.day] 56)).drew:=⟨_,rfl⟩
 have k0:ag ak w w0:=by rw[hw0];exact (((ag.refl ak w).alloc _).alloc _).drew
 have b0:ai w0 (w.heap.size+1) #[.int .i64 ((n:Int)+1),.string ts,.int .i64 tp,.int .i64 tq,.int .i64 jd,.int .i64 jf,.int .i64 G.day] 56:=by rw[hw0];exact (ai.jR w _ _ _).drew
 have bx0:ai w0 w.heap.size #[.pointer (some ⟨bv,0,none⟩)] 35:=by rw[hw0];exact ((ai.new w _ _).alloc _).drew
 have x0:w0.cell? ⟨w.heap.size,0,none⟩=some (.pointer (some ⟨bv,0,none⟩)):=bx0.cell 0
 have hs0:w0.heap.size=w.heap.size+2:=by rw[hw0];simp
 have v20:w0.cell? ⟨bv,2,none⟩=some (.slice pa n iL):=k0.cell v2 (fun x=>x)
 have t0:w0.cell? ⟨w.heap.size+1,0,none⟩=some (.int .i64 ((n:Int)+1)):=b0.cell 0
 have t1:w0.cell? ⟨w.heap.size+1,1,none⟩=some (.string ts):=b0.cell 1
 have t2:w0.cell? ⟨w.heap.size+1,2,none⟩=some (.int .i64 tp):=b0.cell 2
 have t3:w0.cell? ⟨w.heap.size+1,3,none⟩=some (.int .i64 tq):=b0.cell 3
 have t4:w0.cell? ⟨w.heap.size+1,4,none⟩=some (.int .i64 jd):=b0.cell 4
 have t5:w0.cell? ⟨w.heap.size+1,5,none⟩=some (.int .i64 jf):=b0.cell 5
 have t6:w0.cell? ⟨w.heap.size+1,6,none⟩=some (.int .i64 G.day):=b0.cell 6
 obtain⟨w1,hw1⟩:∃w1,w1=((w0.alloc (.cells #[.int .i64 ((n:Int)+1),.string ts,.int .i64 tp,.int .i64 tq,.int .i64 jd,.int .i64 jf,.int .i64 G.day,.bool true] 105)).alloc (.cells #[.pointer (some ⟨w.heap.size+2,0,none⟩)] 103)).drew:=⟨_,rfl⟩
 have k1:ag ak w0 w1:=by rw[hw1];exact (((ag.refl ak w0).alloc _).alloc _).drew
 have hsz1:w1.heap.size=w.heap.size+4:=by rw[hw1];simp[hs0]
 have hnb:ai w1 (w.heap.size+2) (Tg.cells ⟨G.stamp ⟨tn,ts,tp,tq,jd,jf,td⟩,true⟩) 105:=by
  rw[hw1]
  have h:=((ai.new w0 #[.int .i64 ((n:Int)+1),.string ts,.int .i64 tp,.int .i64 tq,.int .i64 jd,.int .i64 jf,.int .i64 G.day,.bool true] 105).alloc (.cells #[.pointer (some ⟨w.heap.size+2,0,none⟩)] 103)).drew
  rw[hs0]at h
  simp only[Tg.cells,Lg.stamp,hn]
  exact h
 have hnews:∀j u,([qK (w.heap.size+2)]:List Value)[j]?=some u→w1.cell? (Addr.add ⟨w.heap.size+3,0,none⟩ j)=some u:=by
  intro j u hj
  have hb:=(ai.new (w0.alloc (.cells #[.int .i64 ((n:Int)+1),.string ts,.int .i64 tp,.int .i64 tq,.int .i64 jd,.int .i64 jf,.int .i64 G.day,.bool true] 105)) #[.pointer (some ⟨w.heap.size+2,0,none⟩)] 103).drew
  have e:(w0.alloc (.cells #[.int .i64 ((n:Int)+1),.string ts,.int .i64 tp,.int .i64 tq,.int .i64 jd,.int .i64 jf,.int .i64 G.day,.bool true] 105)).heap.size=w.heap.size+3:=by simp[hs0]
  rw[e,←hw1]at hb
  exact World.news_of_block hb j u hj
 have hL1:=(hL.aj k0).aj k1
 have hrow1:=au (au ES k0 (fun _ _ x=>x)) k1 (fun _ _ x=>x)
 have hmx:n+1≤maxLen:=by unfold maxLen;omega
 have ik:(n+1) * 8≤140737488355328:=by omega
 obtain⟨i0,hi0,hz0,hz1,hz2⟩:=Cj
 have hone:∀u∈([qK (w.heap.size+2)]:List Value),u.oneCell'=true:=by simp[qK,Value.oneCell']
 have hnot:¬(w.heap.size+2)∈m.tb:=fun h=>by have:=hL.log.lt (.inr (.inr (.inl h)));omega
 have HR:=hide hrow1
 have zi:=hide hnews
 have oN:=hide hone
 have wS:=hide hsz1
 have HL:=hide hL
 have sO:=hide hL1
 have GM:=hide Ak
 have HW:=hide hw0
 have HW1:=hide hw1
 have HB:=hide (k1.blk b0 (fun x=>x))
 have HX:=hide (k1.blk bx0 (fun x=>x))
 have ZZ:=hide hnb
 have YV:=hide hnot
 have HK:=hide (k0.trans k1)
 clear ES hL Ak hw0 b0 bx0 hrow1 hnews hone hw1 hsz1 hL1 k0 k1 hnb hnot
 go_enter Tryz.func178,Tryz.ntmps178
 go_wp2
 go_region
 rw[←ae HW]
 clear v2 v4
 have l1:bv≠w.heap.size+2:=by omega
 have l2:bv≠w.heap.size+2+1:=by omega
 have l3:bv<w0.heap.size:=by omega
 have l4:bv<w.heap.size+2:=by omega
 have l5:bv<w.heap.size+2+1:=by omega
 go_wp2
 obtain⟨Fact,Sr⟩:∃Fact:Nat→Nat→World→Prop,Fact=fun g cap w3=>aK w3 bv bm bo { G with tr:=G.tr++[⟨G.stamp ⟨tn,ts,tp,tq,jd,jf,td⟩,true⟩] } { m with tv:=.slice (some ⟨g,0,none⟩) (n+1) cap,tb:=m.tb++[w.heap.size+2] } ∧
  (∀b,Lm.F { m with tv:=.slice (some ⟨g,0,none⟩) (n+1) cap,tb:=m.tb++[w.heap.size+2] } b→m.F b∨b=w.heap.size+2∨w.heap.size+4≤b)∧ag (fun b=>b=bv∨m.tv.ownBlock=some b) w1 w3:=⟨_,rfl⟩
 obtain⟨T,hT⟩:∃T:Nat→Nat→Act,T=fun g cap=>{ tmps:=#[.pointer (some ⟨bv,0,none⟩),.agg #[.int .i64 tn,.string ts,.int .i64 tp,.int .i64 tq,.int .i64 jd,.int .i64 jf,.int .i64 td],.pointer (some ⟨w.heap.size,0,none⟩),.pointer (some ⟨w.heap.size+1,0,none⟩),.pointer (some ⟨bv,0,none⟩),.pointer (some ⟨bv,0,none⟩),.pointer (some ⟨bv,2,none⟩),.slice pa n iL,.int .i64 (n:Int),.int .i64 ((n:Int)+1),.pointer (some ⟨bv,0,none⟩),.pointer (some ⟨bv,0,none⟩),.pointer (some ⟨bv,4,none⟩),.int .i64 G.day,.pointer (some ⟨w.heap.size+1,0,none⟩),.pointer (some ⟨w.heap.size+1,6,none⟩),.pointer (some ⟨bv,0,none⟩),.pointer (some ⟨bv,0,none⟩),.pointer (some ⟨bv,0,none⟩),.pointer (some ⟨bv,2,none⟩),.slice pa n iL,.agg #[.int .i64 ((n:Int)+1),.string ts,.int .i64 tp,.int .i64 tq,.int .i64 jd,.int .i64 jf,.int .i64 G.day],.agg #[.int .i64 ((n:Int)+1),.string ts,.int .i64 tp,.int .i64 tq,.int .i64 jd,.int .i64 jf,.int .i64 G.day,.bool true],.pointer (some ⟨w.heap.size+2,0,none⟩),.slice (some ⟨w.heap.size+2+1,0,none⟩) 1 1,.slice (some ⟨g,0,none⟩) (n+1) cap,.pointer (some ⟨bv,0,none⟩),.pointer (some ⟨bv,2,none⟩),undef,undef,undef,undef,undef,undef,undef],defers:=[] }:=⟨_,rfl⟩
 have RJ:=hide Sr
 have HTm:=hide hT
 clear Sr hT
 refine Code.wp_mono (Q:=Exit.then (fun a w3=>∃g cap,a=T g cap∧Fact g cap w3) (fun _ _ _=>False)) ?tail ?walk
 case walk =>
  go_region_law (first | (rw[←ae HW1];refine step_append_lies _ rfl (.tmp 20) (.tmp 24) 96 rfl 0 103 i0 (.pointer none) 1 8 Tryz.underlying96 hi0 hz0 hz1 hz2 rfl (by decide) (.slice pa n iL) n (m.tb.map qK) rfl (ae HR) ⟨w.heap.size+3,0,none⟩ 1 1 [qK (w.heap.size+2)] rfl rfl (ae zi) (ae oN) (by omega) hmx ik (by omega) (w.heap.size+4) (ae wS) ?_;intro g cap w2 hown2 hgrow hat hlt;have vk:=hide hown2;have HG2:=hide hgrow;have HA2:=hide hat;have b2:ai w2 bv (oM bm bo m G.day) 100:=(hgrow.block bv (ae sO).cZ.lt (fun e=>(ae sO).Hg (.inl (by rw[ae GM];exact e.symm)))).trans (ae sO).cZ;have v32:=b2.cell 2;have f32:=b2.frozen 2;simp only[oM]at v32;simp at v32;have HB2:=hide b2;have x02:w2.cell? ⟨w.heap.size,0,none⟩=some (.pointer (some ⟨bv,0,none⟩)):=(World.cell?_of_block (a:=⟨w.heap.size,0,none⟩) (hgrow.block w.heap.size (ae HX).lt (fun e=>own_ne (ae HR) e.symm (ae HX) (by decide) rfl))).trans ((ae HX).cell 0);clear hown2 hgrow hat b2))
  all_goals
   obtain⟨a1,a2,a3⟩:=(ae sO).Gz hn (ae ZZ) (ae YV) (ae vk) (by rw[ae GM];exact ae HG2) (by rw[ae GM];exact ae HA2) (ae wS)
   exact⟨g,cap,by rw[ae HTm],by rw[ae RJ];exact⟨a1,a2,a3⟩⟩
 case tail =>
  intro e a w3 h
  cases e <;> (try exact (h:False).elim)
  obtain⟨g,cap,ha,hf⟩:=h
  rw[ae RJ]at hf
  rw[ae HTm]at ha
  obtain⟨a1,a2,a3⟩:=hf
  simp only at ha
  subst ha
  have b3:=a3.blk (ae HB) (by
   rintro (e | e)
   ·omega
   ·exact own_ne (ae sO).log.dE e (ae HB) (by decide) rfl)
  have bx3:=a3.blk (ae HX) (by
   rintro (e | e)
   ·omega
   ·exact own_ne (ae sO).log.dE e (ae HX) (by decide) rfl)
  clear v20 x0 t0 t1 t2 t3 t4 t5 t6
  have x0:w3.cell? ⟨w.heap.size,0,none⟩=some (.pointer (some ⟨bv,0,none⟩)):=bx3.cell 0
  have t0:w3.cell? ⟨w.heap.size+1,0,none⟩=some (.int .i64 ((n:Int)+1)):=b3.cell 0
  have t1:w3.cell? ⟨w.heap.size+1,1,none⟩=some (.string ts):=b3.cell 1
  have t2:w3.cell? ⟨w.heap.size+1,2,none⟩=some (.int .i64 tp):=b3.cell 2
  have t3:w3.cell? ⟨w.heap.size+1,3,none⟩=some (.int .i64 tq):=b3.cell 3
  have t4:w3.cell? ⟨w.heap.size+1,4,none⟩=some (.int .i64 jd):=b3.cell 4
  have t5:w3.cell? ⟨w.heap.size+1,5,none⟩=some (.int .i64 jf):=b3.cell 5
  have t6:w3.cell? ⟨w.heap.size+1,6,none⟩=some (.int .i64 G.day):=b3.cell 6
  have hT:=uf bv bm bo _ _ 1 (G.stamp ⟨tn,ts,tp,tq,jd,jf,td⟩) w3 a1 hlen
  simp only[Tr.val,Lg.stamp,hn]at hT
  have HT:=hide hT
  have HA1:=hide a1
  have zT:=hide a3
  have VI:=hide a2
  clear hT a1 a3 a2
  go_wp2_with fail
  refine (ae HT).mono ?_
  rintro e w4 ⟨rfl,m4,c1,c2,c3⟩
  have hno:∀{b:Nat} {c:Array Value} {t:TypeId},ai w3 b c t→t≠100→t≠62→ai w4 b c t:=fun hb h1 h2=>c3.blk hb (by
   rintro (e | e)
   ·exact ai.ne hb (ae HA1).cZ h1 e
   ·exact own_ne (ae HA1).log.fU e hb (fun e=>h2 e.symm) rfl)
  have bx4:=hno bx3 (by decide) (by decide)
  have y0:w4.cell? ⟨w.heap.size,0,none⟩=some (.pointer (some ⟨bv,0,none⟩)):=bx4.cell 0
  obtain⟨w5,hw5⟩:∃w5,w5=w4.alloc (.cells #[.func (.func 211) #[] #[.pointer (some ⟨w.heap.size,0,none⟩),.pointer (some ⟨w.heap.size+1,0,none⟩)]] 1):=⟨_,rfl⟩
  have k5:ag ak w4 w5:=by rw[hw5];exact (ag.refl ak w4).alloc _
  have b5:ai w5 w4.heap.size #[.func (.func 211) #[] #[.pointer (some ⟨w.heap.size,0,none⟩),.pointer (some ⟨w.heap.size+1,0,none⟩)]] 1:=by rw[hw5];exact ai.new _ _ _
  have hN:=note_any bv bm bo _ _ [.Jf (G.stamp ⟨tn,ts,tp,tq,jd,jf,td⟩)] [.func (.func 211) #[] #[.pointer (some ⟨w.heap.size,0,none⟩),.pointer (some ⟨w.heap.size+1,0,none⟩)]] w4.heap.size 1 1 w5 (c1.aj k5) hna fF hnf (by omega) rfl rfl (World.news_of_block b5) (by simp[Value.oneCell'])
  have oH:=hide hN
  have ML:=hide hw5
  have uk:=hide c1
  have HC2:=hide c2
  have qO:=hide c3
  have J4:=hide k5
  clear hN hw5 c1 c2 c3 k5 b5 hno x0 t0 t1 t2 t3 t4 t5 t6
  go_wp2_with fail
  rw[←ae ML]
  refine (ae oH).mono ?_
  rintro e w6 ⟨rfl,m',d1,d2,d3⟩
  go_wp2
  go_end0
  have e4:(ae zT).size=(ae zT).size:=rfl
  refine⟨rfl,m',?_,fun b hb=>?_,?_⟩
  ·have e:G.kM ⟨tn,ts,tp,tq,jd,jf,td⟩=(Lg.told { G with tr:=G.tr++[⟨G.stamp ⟨tn,ts,tp,tq,jd,jf,td⟩,true⟩] } 1 ⟨(n:Int)+1,ts,tp,tq,jd,jf,G.day⟩).aS [.Jf (G.stamp ⟨tn,ts,tp,tq,jd,jf,td⟩)]:=by
    simp only[Lg.kM,Lg.kept,Lg.stamp,hn]
   rw[e]
   simp only[Lg.stamp,hn]at d1 ⊢
   exact d1
  ·have s3:=(ae zT).size
   have s1:=ae wS
   have s4:=(ae qO).size
   have s5:=(ae J4).size
   rcases d2 b hb with h | h
   ·rcases ae HC2 b h with h | h
    ·rcases ae VI b h with h | h | h
     ·exact .inl h
     ·right;omega
     ·right;omega
    ·right;omega
   ·right;omega
  ·have s1:=ae wS
   have s3:=(ae zT).size
   refine (((ae HK).aC.trans ((ae zT).mono (fun b h=>?_))).from ((ae qO).mono (fun b h=>?_))).from (((ae J4).aC.trans d3).mono (fun b h=>?_))
   ·rcases h with h | h
    ·exact .inl h
    ·exact .inr (.inl h)
   ·rcases h with h | h
    ·exact .inl (.inl h)
    ·exact .inl (.inr (.inr (.inl (.inl h))))
   ·rcases ae HC2 b h with h | h
    ·rcases ae VI b h with h | h | h
     ·exact .inl (.inr h)
     ·right;omega
     ·right;omega
    ·right;omega
end Go.Proofs.YtigaphnafnpfnaaGreatDoor
