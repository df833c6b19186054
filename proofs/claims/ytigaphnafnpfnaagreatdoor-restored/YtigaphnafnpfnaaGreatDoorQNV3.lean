import Derived.Test.YtigaphnafnpfnaaGreatDoorQNF3
set_option linter.unusedVariables false
set_option linter.unusedSimpArgs false
set_option maxHeartbeats 8000000
set_option maxRecDepth 100000
namespace Go.Proofs.YtigaphnafnpfnaaGreatDoor
open Go.RowKit
attribute [local go_sem ↓] Go.wp_at_zero Go.wp_at_succ
theorem yY(bv bm bo:Nat)(G:Lg)(m:Lm)(kind:Int)(t:Tr)(w:World)(hL:bG w bv bm bo G m)(hlen:G.tp.length<1000000000) :
 CT 73 #[PP bv,II kind,t.val] w fun e w'=>e=.returned (.tuple #[]) /\
  ∃m',bG w' bv bm bo (G.told kind t) m'/\(∀b,m'.F b->m.F b\/w.heap.size<=b)/\aj (fun b=>b=bv\/m.pv.ownBlock=some b) w w'/\m'.ac=m.ac/\m'.tb=m.tb/\m'.tv=m.tv:=by
 obtain⟨n,hn⟩:=mf G.tp.length;have Ja:=hL.aP.iO;rw[hn]at Ja hlen;obtain⟨pa,lU,hpv⟩:∃pa lU,m.pv=.slice pa n lU:=by
  rcases Ja.2 with⟨h,h0⟩ | ⟨g,cap,cs,h,_⟩
  ·exact⟨none,0,by rw[h,h0]⟩
  ·exact⟨_,cap,h⟩
 rw[hpv]at Ja;have hv:=hL.dC;have v3:CC w bv 3 (.slice pa n lU):=(hv.cell 3).trans (by rw[<-hpv];rfl);have f3:=hv.frozen 3;have lv:=hv.lt;have hmx:n+1<=maxLen:=by unfold maxLen;omega
 have sO:(n+1) * 80<=140737488355328:=by omega
 obtain⟨i0,z0,hi0,hz0,hz1,hz2,hz3⟩:=xG;obtain⟨tn,ts,tp,tq,uY,uZ,td⟩:=t;simp only[Tr.val];obtain⟨w0,hw0⟩:=kL (w.alloc (.cells #[II tn,.string ts,II tp,II tq,II uY,II uZ,II td] 56));have k0:aj aJ w w0:=by rw[hw0];exact (aj.refl aJ w).alloc _
 have b0:aA w0 w.heap.size #[II tn,.string ts,II tp,II tq,II uY,II uZ,II td] 56:=by rw[hw0];exact aA.new _ _ _
 have hs0:w0.heap.size=w.heap.size+1:=by rw[hw0];simp
 have hL0:=hL.aB k0;have hrow0:=aI Ja k0 (fun _ _ x=>x);have v3':CC w0 bv 3 (.slice pa n lU):=k0.cell v3 aU;obtain⟨t0,t1,t2,t3,t4,t5,t6⟩:=b0.c7;obtain⟨w1,hw1⟩:=kL ((w0.alloc (.cells #[II (IntKind.i64.wrap ((n:Int)+1)),II kind,II tn,.string ts,II tp,II tq,II uY,II uZ,II td] 62)).drew);have k1:aj aJ w0 w1:=by rw[hw1];exact ((aj.refl aJ w0).alloc _).drew
 have hrow1:=aI hrow0 k1 (fun _ _ x=>x);have hsz1:w1.heap.size=w.heap.size+2:=by rw[hw1];simp[hs0]
 have hnews:∀j u,(Rc.cells ⟨IntKind.i64.wrap ((n:Int)+1),kind,⟨tn,ts,tp,tq,uY,uZ,td⟩⟩)[j]?=some u->w1.cell? (Addr.add ⟨w.heap.size+1,0,none⟩ j)=some u:=by
  intro j u hj;have:=ab2 w0 ⟨IntKind.i64.wrap ((n:Int)+1),kind,⟨tn,ts,tp,tq,uY,uZ,td⟩⟩ j u hj;rw[hs0]at this;rw[hw1];exact this
 have hone:∀u∈Rc.cells ⟨IntKind.i64.wrap ((n:Int)+1),kind,⟨tn,ts,tp,tq,uY,uZ,td⟩⟩,u.oneCell'=true:=by simp[Rc.cells,Value.oneCell']
 have hL1:=hL0.aB k1;have hwr:IntKind.i64.wrap ((n:Int)+1)=(n:Int)+1:=by rw[IntKind.wrap_i64];omega
 have HE:Hid (Lg.told G kind ⟨tn,ts,tp,tq,uY,uZ,td⟩={ G with tp:=G.tp++[⟨IntKind.i64.wrap ((n:Int)+1),kind,⟨tn,ts,tp,tq,uY,uZ,td⟩⟩] }):=by
  show _=_;unfold Lg.told;rw[hn,hwr]
 clear hwr;obtain⟨HR,zO,HON,WL,HL,PE,HPV,HW,HW1⟩:=YF hrow1 hnews hone hsz1 hL hL1 hpv hw0 hw1;have HB:=au (k1.aF b0 aU);have hne:w.heap.size≠bv:=by omega
 have HK:=au (k0.trans k1);clear Ja hL hpv hrow0 hL0 hw0 b0 v3 hrow1 hnews hone hw1 hsz1 hL1 k0 k1 f3;go_enter Tryz.func73,Tryz.ntmps73;go_wp2;rw[<-ae HW];go_region_law (first | (rw[<-ae HW1];refine step_append_lies _ rfl (.tmp 10) (.tmp 20) 34 rfl 0 62 i0 z0 9 80 Tryz.underlying34 hi0 hz0 hz1 hz2 hz3 (by decide) (.slice pa n lU) n (kT G.tp) rfl (ae HR) ⟨w.heap.size+1,0,none⟩ 1 1 (Rc.cells ⟨IntKind.i64.wrap ((n:Int)+1),kind,⟨tn,ts,tp,tq,uY,uZ,td⟩⟩) rfl rfl (ae zO) (ae HON) (by omega) hmx sO (by omega) (w.heap.size+2) (ae WL) ?_;intro g cap w2 hown2 hgrow hat hlt;have Ik:=au hown2;have HG2:=au hgrow;have HA2:=au hat;have b2:aA w2 bv (sU bm bo m G.day) 100:=(hgrow.block bv (ae PE).dC.lt (fun e=>(ae PE).L6 (.inr (.inl (.inl (by rw[ae HPV];exact e.symm)))))).trans (ae PE).dC;have v32:=b2.cell 3;have f32:=b2.frozen 3;simp only[sU]at v32;simp at v32;have HB2:=au b2;clear hown2 hgrow hat b2))
 all_goals
  go_end0;obtain⟨a1,a2,a3⟩:=(ae PE).QS hn (ae Ik) (by rw[ae HPV];exact ae HG2) (by rw[ae HPV];exact ae HA2) (ae WL);refine⟨rfl,_,?_,fun b hb=>(a2 b hb).imp_right (fun h=>by omega),(ae HK).bI.trans a3,rfl,rfl,rfl⟩;rw[ae HE];exact a1
theorem LQ(bv bm bo:Nat)(G:Lg)(m:Lm)(t:Tr)(w:World)(bk:Nat->Nat)(lo:Nat)(old:List (List Value))(dW:List Nat)(cl:List Value)(hL:bG w bv bm bo G m)(hC:iw w bv bk lo false old G.nt dW m cl)(hlo:lo<=w.heap.size)(hlen:G.tp.length<1000000000)(hlen2:G.tr.length<1000000000)(hna:0<G.na)(iJ:G.na<=3000000)(hnf:G.nt.length+1<1000000000) :
 CT 178 #[PP bv,t.val] w fun e w'=>e=.returned (.tuple #[]) /\
  ∃m',bG w' bv bm bo (G.jT t) m'/\(∀b,m'.F b->m.F b\/w.heap.size<=b)/\aj (fun b=>b=bv\/m.F b) w w'/\∃tb c,dW.length+1=G.tr.length+1/\iw w' bv bk lo false old (G.jT t).nt (dW++[tb]) m' (cl++[c]):=by
 obtain⟨n,hn⟩:=mf G.tr.length;have Jd:=hL.aP.jJ;rw[hn]at Jd hlen2;obtain⟨pa,lU,zF⟩:∃pa lU,m.tv=.slice pa n lU:=by
  rcases Jd.2 with⟨h,h0⟩ | ⟨g,cap,cs,h,_⟩
  ·exact⟨none,0,by rw[h,h0]⟩
  ·exact⟨_,cap,h⟩
 rw[zF]at Jd;have v2:CC w bv 2 (.slice pa n lU):=(hL.dC.cell 2).trans (by rw[<-zF];rfl);have v4:CC w bv 4 (II G.day):=hL.dC.cell 4;have lv:=hL.dC.lt;obtain⟨tn,ts,tp,tq,uY,uZ,td⟩:=t;simp only[Tr.val];obtain⟨w0,hw0⟩:=kL (((w.alloc (.cells #[PP bv] 35)).alloc (.cells #[II ((n:Int)+1),.string ts,II tp,II tq,II uY,II uZ,II G.day] 56)).drew);have k0:aj aJ w w0:=by rw[hw0];exact (((aj.refl aJ w).alloc _).alloc _).drew
 have b0:aA w0 (w.heap.size+1) #[II ((n:Int)+1),.string ts,II tp,II tq,II uY,II uZ,II G.day] 56:=by rw[hw0];exact (aA.sQ w _ _ _).drew
 have bx0:aA w0 w.heap.size #[PP bv] 35:=by rw[hw0];exact ((aA.new w _ _).alloc _).drew
 have x0:CC w0 w.heap.size 0 (PP bv):=bx0.cell 0;have hs0:w0.heap.size=w.heap.size+2:=by rw[hw0];simp
 have v20:CC w0 bv 2 (.slice pa n lU):=k0.cell v2 aU;obtain⟨t0,t1,t2,t3,t4,t5,t6⟩:=b0.c7;obtain⟨w1,hw1⟩:=kL (((w0.alloc (.cells #[II ((n:Int)+1),.string ts,II tp,II tq,II uY,II uZ,II G.day,.bool true] 105)).alloc (.cells #[PP (w.heap.size+2)] 103)).drew);have k1:aj aJ w0 w1:=by rw[hw1];exact (((aj.refl aJ w0).alloc _).alloc _).drew
 have hsz1:w1.heap.size=w.heap.size+4:=by rw[hw1];simp[hs0]
 have hnb:aA w1 (w.heap.size+2) (Tg.cells ⟨G.iP ⟨tn,ts,tp,tq,uY,uZ,td⟩,true⟩) 105:=by
  rw[hw1];have h:=((aA.new w0 #[II ((n:Int)+1),.string ts,II tp,II tq,II uY,II uZ,II G.day,.bool true] 105).alloc (.cells #[PP (w.heap.size+2)] 103)).drew;rw[hs0]at h;simp only[Tg.cells,Lg.iP,hn];exact h
 have hnews:∀j u,([dD (w.heap.size+2)]:List Value)[j]?=some u->w1.cell? (Addr.add ⟨w.heap.size+3,0,none⟩ j)=some u:=by
  intro j u hj;have hb:=(aA.new (w0.alloc (.cells #[II ((n:Int)+1),.string ts,II tp,II tq,II uY,II uZ,II G.day,.bool true] 105)) #[PP (w.heap.size+2)] 103).drew;have e:(w0.alloc (.cells #[II ((n:Int)+1),.string ts,II tp,II tq,II uY,II uZ,II G.day,.bool true] 105)).heap.size=w.heap.size+3:=by simp[hs0]
  rw[e,<-hw1]at hb;exact World.news_of_block hb j u hj
 have hL1:=(hL.aB k0).aB k1;have hrow1:=aI (aI Jd k0 (fun _ _ x=>x)) k1 (fun _ _ x=>x);have hmx:n+1<=maxLen:=by unfold maxLen;omega
 have sO:(n+1) * 8<=140737488355328:=by omega
 obtain⟨i0,hi0,hz0,hz1,hz2⟩:=xH;have hone:∀u∈([dD (w.heap.size+2)]:List Value),u.oneCell'=true:=by simp[dD,Value.oneCell']
 have hnot:¬(w.heap.size+2)∈m.tb:=fun h=>by have:=hL.aP.lt (lN h);omega
 obtain⟨HCu,Ym,HR,zO,HON,WL,HL,PE,HTV,HW,HW1⟩:=ZX hC (show dW.length+1=G.tr.length+1 by rw[<-hC.tb,hL.aP.len]) hrow1 hnews hone hsz1 hL hL1 zF hw0 hw1;have HB:=au (k1.aF b0 aU);have HX:=au (k1.aF bx0 aU);obtain⟨HNB,HNO,HK⟩:=eY hnb hnot (k0.trans k1);clear hC Jd hL zF hw0 b0 bx0 hrow1 hnews hone hw1 hsz1 hL1 k0 k1 hnb hnot;go_enter Tryz.func178,Tryz.ntmps178;go_wp2;go_region;rw[<-ae HW];clear v2 v4;have l1:bv≠w.heap.size+2:=by omega
 have l2:bv≠w.heap.size+2+1:=by omega
 have l3:bv<w0.heap.size:=by omega
 have l4:bv<w.heap.size+2:=by omega
 have l5:bv<w.heap.size+2+1:=by omega
 go_wp2;obtain⟨Fact,YB⟩:∃Fact:Nat->Nat->World->Prop,Fact=fun g cap w3=>bG w3 bv bm bo { G with tr:=G.tr++[⟨G.iP ⟨tn,ts,tp,tq,uY,uZ,td⟩,true⟩] } { m with tv:=.slice (some ⟨g,0,none⟩) (n+1) cap,tb:=m.tb++[w.heap.size+2] } /\
  (∀b,Lm.F { m with tv:=.slice (some ⟨g,0,none⟩) (n+1) cap,tb:=m.tb++[w.heap.size+2] } b->m.F b\/b=w.heap.size+2\/w.heap.size+4<=b)/\aj (fun b=>b=bv\/m.tv.ownBlock=some b) w1 w3:=⟨_,rfl⟩
 obtain⟨T,hT⟩:∃T:Nat->Nat->Act,T=fun g cap=>{ tmps:=#[PP bv,.agg #[II tn,.string ts,II tp,II tq,II uY,II uZ,II td],PP w.heap.size,PP (w.heap.size+1),PP bv,PP bv,.pointer (some ⟨bv,2,none⟩),.slice pa n lU,II (n:Int),II ((n:Int)+1),PP bv,PP bv,.pointer (some ⟨bv,4,none⟩),II G.day,PP (w.heap.size+1),.pointer (some ⟨w.heap.size+1,6,none⟩),PP bv,PP bv,PP bv,.pointer (some ⟨bv,2,none⟩),.slice pa n lU,.agg #[II ((n:Int)+1),.string ts,II tp,II tq,II uY,II uZ,II G.day],.agg #[II ((n:Int)+1),.string ts,II tp,II tq,II uY,II uZ,II G.day,.bool true],PP (w.heap.size+2),.slice (some ⟨w.heap.size+2+1,0,none⟩) 1 1,.slice (some ⟨g,0,none⟩) (n+1) cap,PP bv,.pointer (some ⟨bv,2,none⟩),undef,undef,undef,undef,undef,undef,undef],defers:=[] }:=⟨_,rfl⟩
 obtain⟨Yf,HTm⟩:=dE YB hT;clear YB hT;refine Code.wp_mono (Q:=Exit.then (fun a w3=>∃g cap,a=T g cap/\Fact g cap w3) (fun _ _ _=>False)) ?tail ?walk
 case walk =>
  go_region_law (first | (rw[<-ae HW1];refine step_append_lies _ rfl (.tmp 20) (.tmp 24) 96 rfl 0 103 i0 (.pointer none) 1 8 Tryz.underlying96 hi0 hz0 hz1 hz2 rfl (by decide) (.slice pa n lU) n (m.tb.map dD) rfl (ae HR) ⟨w.heap.size+3,0,none⟩ 1 1 [dD (w.heap.size+2)] rfl rfl (ae zO) (ae HON) (by omega) hmx sO (by omega) (w.heap.size+4) (ae WL) ?_;intro g cap w2 hown2 hgrow hat hlt;have Ik:=au hown2;have HG2:=au hgrow;have HA2:=au hat;have b2:aA w2 bv (sU bm bo m G.day) 100:=(hgrow.block bv (ae PE).dC.lt (fun e=>(ae PE).L6 (.inl (by rw[ae HTV];exact e.symm)))).trans (ae PE).dC;have v32:=b2.cell 2;have f32:=b2.frozen 2;simp only[sU]at v32;simp at v32;have HB2:=au b2;have x02:CC w2 w.heap.size 0 (PP bv):=(World.cell?_of_block (a:=⟨w.heap.size,0,none⟩) (hgrow.block w.heap.size (ae HX).lt (fun e=>bY (ae HR) e.symm (ae HX) (by decide) rfl))).trans ((ae HX).cell 0);clear hown2 hgrow hat b2))
  all_goals
   obtain⟨a1,a2,a3⟩:=(ae PE).KY hn (ae HNB) (ae HNO) (ae Ik) (by rw[ae HTV];exact ae HG2) (by rw[ae HTV];exact ae HA2) (ae WL);exact⟨g,cap,by rw[ae HTm],by rw[ae Yf];exact⟨a1,a2,a3⟩⟩
 case tail =>
  intro e a w3 h;cases e <;> (try exact (h:False).elim)
  obtain⟨g,cap,ha,hf⟩:=h;rw[ae Yf]at hf;rw[ae HTm]at ha;obtain⟨a1,a2,a3⟩:=hf;simp only at ha;subst ha;have b3:=a3.aF (ae HB) (by
   rintro (e | e)
   ·omega
   ·exact bY (ae PE).aP.jJ e (ae HB) (by decide) rfl)
  have bx3:=a3.aF (ae HX) (by
   rintro (e | e)
   ·omega
   ·exact bY (ae PE).aP.jJ e (ae HX) (by decide) rfl)
  clear v20 x0 t0 t1 t2 t3 t4 t5 t6;have x0:CC w3 w.heap.size 0 (PP bv):=bx3.cell 0;obtain⟨t0,t1,t2,t3,t4,t5,t6⟩:=b3.c7;have hT:=yY bv bm bo _ _ 1 (G.iP ⟨tn,ts,tp,tq,uY,uZ,td⟩) w3 a1 hlen;simp only[Tr.val,Lg.iP,hn]at hT;obtain⟨HT,HA1,Wv,aaL⟩:=pJ hT a1 a3 a2;clear hT a1 a3 a2;go_wp2_with fail;refine (ae HT).mono ?_;rintro e w4 ⟨rfl,m4,c1,c2,c3,c4,c5⟩;have hno:∀{b:Nat} {c:Array Value} {t:TypeId},aA w3 b c t->t≠100->t≠62->aA w4 b c t:=fun hb h1 h2=>c3.aF hb (by
   rintro (e | e)
   ·exact aA.ne hb (ae HA1).dC h1 e
   ·exact bY (ae HA1).aP.iO e hb (fun e=>h2 e.symm) rfl)
  have bx4:=hno bx3 (by decide) (by decide);have y0:CC w4 w.heap.size 0 (PP bv):=bx4.cell 0;obtain⟨w5,hw5⟩:=kL (w4.alloc (.cells #[.func (.func 211) #[] #[PP w.heap.size,PP (w.heap.size+1)]] 1));have k5:aj aJ w4 w5:=by rw[hw5];exact (aj.refl aJ w4).alloc _
  have b5:aA w5 w4.heap.size #[.func (.func 211) #[] #[PP w.heap.size,PP (w.heap.size+1)]] 1:=by rw[hw5];exact aA.new _ _ _
  have hc1:iw w1 bv bk lo false old G.nt dW m cl:=(ae HCu).aB (ae HK);have hc3:iw w3 bv bk lo false old G.nt (m.tb++[w.heap.size+2]) { m with tv:=.slice (some ⟨g,0,none⟩) (n+1) cap,tb:=m.tb++[w.heap.size+2] } cl:=(hc1.aC (ae Wv) (nP.gK (fun b hb=>by
   rcases hb with e | e
   ·subst e;exact⟨_,100,(ae PE).dC,by unfold o7;decide⟩
   ·obtain⟨cs,hcs⟩:=bK (ae PE).aP.jJ e;exact⟨cs,103,hcs,by unfold o7;decide⟩))).U3 (m':={ m with tv:=.slice (some ⟨g,0,none⟩) (n+1) cap,tb:=m.tb++[w.heap.size+2] }) rfl (fun d hd hT=>absurd (hc1.sZ d hd hT) Bool.false_ne_true)
  have hc4:iw w4 bv bk lo false old G.nt (m.tb++[w.heap.size+2]) m4 cl:=by
   have:=(hc3.aC c3 (nP.gK (fun b hb=>by
    rcases hb with e | e
    ·subst e;exact⟨_,100,(ae HA1).dC,by unfold o7;decide⟩
    ·obtain⟨cs,hcs⟩:=bK (ae HA1).aP.iO e;exact⟨cs,62,hcs,by unfold o7;decide⟩))).U3 (m':=m4) c4 (fun d hd hT=>absurd (hc1.sZ d hd hT) Bool.false_ne_true)
   rw[c5.1]at this;exact this
  have b4:=hno b3 (by decide) (by decide);have hbk:bU w5 bv bk lo (.iZ (G.iP ⟨tn,ts,tp,tq,uY,uZ,td⟩)) (.func (.func 211) #[] #[PP w.heap.size,PP (w.heap.size+1)]):=by
   refine⟨_,_,rfl,rfl,w.heap.size,hlo,rfl,k5.aF bx4 aU,?_⟩;have:=k5.aF b4 aU;simp only[Lg.iP,hn,Tr.cells];exact this
  have hN:=UO bv bm bo _ _ [.iZ (G.iP ⟨tn,ts,tp,tq,uY,uZ,td⟩)] [.func (.func 211) #[] #[PP w.heap.size,PP (w.heap.size+1)]] w4.heap.size 1 1 w5 bk lo false old (m.tb++[w.heap.size+2]) cl (c1.aB k5) (hc4.aB k5) (fun x hx=>by rw[List.mem_singleton.1 hx];intro h;cases h) (fun i d c hd hc=>by
   cases i with
   | zero=>simp at hd hc;subst hd hc;exact hbk
   | succ i=>simp at hd) hna iJ hnf (by omega) rfl rfl (World.news_of_block b5) (by simp[Value.oneCell']) (fun x hx h=>by rw[List.mem_singleton.1 hx]at h;cases h)
  obtain⟨rZ,Zh,Rj,HC2,RG,Lh⟩:=zC hN hw5 c1 c2 c3 k5;clear hN hw5 c1 c2 c3 k5 b5 hno hc1 hc3 hc4 hbk b4 c4 c5 x0 t0 t1 t2 t3 t4 t5 t6;go_wp2_with fail;rw[<-ae Zh];refine (ae rZ).mono ?_;rintro e w6 ⟨rfl,m',d1,d2,d3',-,d5⟩;have d3:=d3'.mono (fun b h=>show m4.F b from DR h);go_wp2;go_end0;have e4:(ae Wv).size=(ae Wv).size:=rfl;refine⟨rfl,m',?_,fun b hb=>?_,?_,w.heap.size+2,.func (.func 211) #[] #[PP w.heap.size,PP (w.heap.size+1)],ae Ym,?_⟩
  ·have e:G.jT ⟨tn,ts,tp,tq,uY,uZ,td⟩=(Lg.told { G with tr:=G.tr++[⟨G.iP ⟨tn,ts,tp,tq,uY,uZ,td⟩,true⟩] } 1 ⟨(n:Int)+1,ts,tp,tq,uY,uZ,G.day⟩).aX [.iZ (G.iP ⟨tn,ts,tp,tq,uY,uZ,td⟩)]:=by
    simp only[Lg.jT,Lg.aC,Lg.iP,hn]
   rw[e];simp only[Lg.iP,hn]at d1 ⊢;exact d1
  ·have s3:=(ae Wv).size;have s1:=ae WL;have s4:=(ae RG).size;have s5:=(ae Lh).size;rcases d2 b hb with h | h
   ·rcases ae HC2 b h with h | h
    ·rcases ae aaL b h with h | h | h
     ·exact .inl h
     ·right;omega
     ·right;omega
    ·right;omega
   ·right;omega
  ·have s1:=ae WL;have s3:=(ae Wv).size;refine (((ae HK).bI.trans ((ae Wv).mono (fun b h=>?_))).from ((ae RG).mono (fun b h=>?_))).from (((ae Lh).bI.trans d3).mono (fun b h=>?_))
   ·rcases h with h | h
    ·exact .inl h
    ·exact .inr (.inl h)
   ·rcases h with h | h
    ·exact .inl (.inl h)
    ·exact .inl (lN (.inl h))
   ·rcases ae HC2 b h with h | h
    ·rcases ae aaL b h with h | h | h
     ·exact .inl (.inr h)
     ·right;omega
     ·right;omega
    ·right;omega
  ·rw[<-(ae HCu).tb];exact d5
end Go.Proofs.YtigaphnafnpfnaaGreatDoor
