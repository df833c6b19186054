import Derived.Test.YtigaphnafnpfnaaGreatDoorQVF4
set_option linter.unusedVariables false
set_option linter.unusedSimpArgs false
set_option maxHeartbeats 8000000
set_option maxRecDepth 100000
namespace Go.Proofs.YtigaphnafnpfnaaGreatDoor
open Go.RowKit
attribute [local go_sem ↓] Go.wp_at_zero Go.wp_at_succ
theorem yh(bv H I:Nat)(G:Lg)(m:Lm)(a:Int)(t:Tr)(w:World)(p:bz w bv H I G m)(hlen:G.tp.length<1000000000) :
 CT 73 #[PP bv,II a,t.val] w fun e w'=>e=.returned (.tuple #[]) /\
  ∃m',bz w' bv H I (G.told a t) m'/\(∀b,m'.F b->m.F b\/w.heap.size<=b)/\aj (fun b=>b=bv\/m.pv.ownBlock=some b) w w'/\m'.ac=m.ac/\m'.tb=m.tb/\m'.tv=m.tv:=by
 obtain⟨n,K⟩:=dQ G.tp.length;have q:=p.aO.fQ;rw[K]at q hlen;obtain⟨y,z,C⟩:∃y z,m.pv=.slice y n z:=by
  rcases q.2 with⟨h,h0⟩ | ⟨g,cap,cs,h,_⟩
  ·exact⟨none,0,by rw[h,h0]⟩
  ·exact⟨_,cap,h⟩
 rw[C]at q;have L:=p.cO;have v3:CC w bv 3 (.slice y n z):=(L.cell 3).trans (by rw[<-C];rfl);have f3:=L.frozen 3;have lv:=L.lt;have hmx:n+1<=maxLen:=by unfold maxLen;omega
 have lH:(n+1) * 80<=140737488355328:=by omega
 obtain⟨i0,z0,hi0,hz0,hz1,hz2,hz3⟩:=lX;obtain⟨f,i,tp,tq,c,k,d⟩:=t;simp only[Tr.val];obtain⟨l,r⟩:=gy (w.alloc (.cells #[II f,.string i,II tp,II tq,II c,II k,II d] 56));have u:aj aA w l:=by rw[r];exact (aj.refl aA w).alloc _
 have E:au l w.heap.size #[II f,.string i,II tp,II tq,II c,II k,II d] 56:=by rw[r];exact au.new _ _ _
 have U:l.heap.size=w.heap.size+1:=by rw[r];simp
 have O:=p.ax u;have S:=aB q u (fun _ _ x=>x);have v3':CC l bv 3 (.slice y n z):=u.cell v3 idd;obtain⟨t0,t1,t2,t3,t4,t5,t6⟩:=E.c7;obtain⟨M,s⟩:=gy ((l.alloc (.cells #[II (IntKind.i64.wrap ((n:Int)+1)),II a,II f,.string i,II tp,II tq,II c,II k,II d] 62)).drew);have v:aj aA l M:=by rw[s];exact ((aj.refl aA l).alloc _).drew
 have T:=aB S v (fun _ _ x=>x);have V:M.heap.size=w.heap.size+2:=by rw[s];simp[U]
 have hnews:∀j o,(Rc.cells ⟨IntKind.i64.wrap ((n:Int)+1),a,⟨f,i,tp,tq,c,k,d⟩⟩)[j]?=some o->M.cell? (Addr.add ⟨w.heap.size+1,0,none⟩ j)=some o:=by
  intro j o hj;have:=MW l ⟨IntKind.i64.wrap ((n:Int)+1),a,⟨f,i,tp,tq,c,k,d⟩⟩ j o hj;rw[U]at this;rw[s];exact this
 have hone:∀o∈Rc.cells ⟨IntKind.i64.wrap ((n:Int)+1),a,⟨f,i,tp,tq,c,k,d⟩⟩,o.oneCell'=true:=by simp[Rc.cells,Value.oneCell']
 have P:=O.ax v;have W:IntKind.i64.wrap ((n:Int)+1)=(n:Int)+1:=by rw[IntKind.wrap_i64];omega
 have Z:Hid (Lg.told G a ⟨f,i,tp,tq,c,k,d⟩={ G with tp:=G.tp++[⟨IntKind.i64.wrap ((n:Int)+1),a,⟨f,i,tp,tq,c,k,d⟩⟩] }):=by
  show _=_;unfold Lg.told;rw[K,W]
 clear W;obtain⟨HR,Jq,CE,N,HL,A,D,HW,HW1⟩:=wL T hnews hone V p P C r s;have HB:=ai (v.ay E idd);have hne:w.heap.size≠bv:=by omega
 have HK:=ai (u.trans v);clear q p C S O r E v3 T hnews hone s V P u v f3;go_enter Tryz.func73,Tryz.ntmps73;go_wp2;rw[<-ae HW];go_region_law (first | (rw[<-ae HW1];refine step_append_lies _ rfl (.tmp 10) (.tmp 20) 34 rfl 0 62 i0 z0 9 80 Tryz.underlying34 hi0 hz0 hz1 hz2 hz3 (by decide) (.slice y n z) n (gm G.tp) rfl (ae HR) ⟨w.heap.size+1,0,none⟩ 1 1 (Rc.cells ⟨IntKind.i64.wrap ((n:Int)+1),a,⟨f,i,tp,tq,c,k,d⟩⟩) rfl rfl (ae Jq) (ae CE) (by omega) hmx lH (by omega) (w.heap.size+2) (ae N) ?_;intro g cap w2 R J Q hlt;have Ec:=ai R;have HG2:=ai J;have Y:=ai Q;have B:au w2 bv (rZ H I m G.day) 100:=(J.block bv (ae A).cO.lt (fun e=>(ae A).JH (.inr (.inl (.inl (by rw[ae D];exact e.symm)))))).trans (ae A).cO;have X:=B.cell 3;have f32:=B.frozen 3;simp only[rZ]at X;simp at X;have HB2:=ai B;clear R J Q B))
 all_goals
  go_end0;obtain⟨a1,a2,a3⟩:=(ae A).OY K (ae Ec) (by rw[ae D];exact ae HG2) (by rw[ae D];exact ae Y) (ae N);refine⟨rfl,_,?_,fun b hb=>(a2 b hb).imp_right (fun h=>by omega),(ae HK).aP.trans a3,rfl,rfl,rfl⟩;rw[ae Z];exact a1
theorem Jz(bv E H:Nat)(G:Lg)(m:Lm)(t:Tr)(w:World)(bk:Nat->Nat)(lo:Nat)(N:List (List Value))(dP:List Nat)(I:List Value)(q:bz w bv E H G m)(hC:iy w bv bk lo false N G.nt dP m I)(hlo:lo<=w.heap.size)(hlen:G.tp.length<1000000000)(hlen2:G.tr.length<1000000000)(hna:0<G.na)(kX:G.na<=3000000)(hnf:G.nt.length+1<1000000000) :
 CT 178 #[PP bv,t.val] w fun e w'=>e=.returned (.tuple #[]) /\
  ∃m',bz w' bv E H (G.lC t) m'/\(∀b,m'.F b->m.F b\/w.heap.size<=b)/\aj (fun b=>b=bv\/m.F b) w w'/\∃tb c,dP.length+1=G.tr.length+1/\iy w' bv bk lo false N (G.lC t).nt (dP++[tb]) m' (I++[c]):=by
 obtain⟨n,A⟩:=dQ G.tr.length;have acF:=q.aO.dJ;rw[A]at acF hlen2;obtain⟨B,C,ML⟩:∃B C,m.tv=.slice B n C:=by
  rcases acF.2 with⟨h,h0⟩ | ⟨g,cap,cs,h,_⟩
  ·exact⟨none,0,by rw[h,h0]⟩
  ·exact⟨_,cap,h⟩
 rw[ML]at acF;have v2:CC w bv 2 (.slice B n C):=(q.cO.cell 2).trans (by rw[<-ML];rfl);have v4:CC w bv 4 (II G.day):=q.cO.cell 4;have lv:=q.cO.lt;obtain⟨s,f,tp,tq,d,k,r⟩:=t;simp only[Tr.val];obtain⟨l,J⟩:=gy (((w.alloc (.cells #[PP bv] 35)).alloc (.cells #[II ((n:Int)+1),.string f,II tp,II tq,II d,II k,II G.day] 56)).drew);have U:aj aA w l:=by rw[J];exact (((aj.refl aA w).alloc _).alloc _).drew
 have b0:au l (w.heap.size+1) #[II ((n:Int)+1),.string f,II tp,II tq,II d,II k,II G.day] 56:=by rw[J];exact (au.qm w _ _ _).drew
 have bx0:au l w.heap.size #[PP bv] 35:=by rw[J];exact ((au.new w _ _).alloc _).drew
 have x0:CC l w.heap.size 0 (PP bv):=bx0.cell 0;have hs0:l.heap.size=w.heap.size+2:=by rw[J];simp
 have v20:CC l bv 2 (.slice B n C):=U.cell v2 idd;obtain⟨t0,t1,t2,t3,t4,t5,t6⟩:=b0.c7;obtain⟨P,K⟩:=gy (((l.alloc (.cells #[II ((n:Int)+1),.string f,II tp,II tq,II d,II k,II G.day,.bool true] 105)).alloc (.cells #[PP (w.heap.size+2)] 103)).drew);have L:aj aA l P:=by rw[K];exact (((aj.refl aA l).alloc _).alloc _).drew
 have hsz1:P.heap.size=w.heap.size+4:=by rw[K];simp[hs0]
 have hnb:au P (w.heap.size+2) (Tg.cells ⟨G.jo ⟨s,f,tp,tq,d,k,r⟩,true⟩) 105:=by
  rw[K];have h:=((au.new l #[II ((n:Int)+1),.string f,II tp,II tq,II d,II k,II G.day,.bool true] 105).alloc (.cells #[PP (w.heap.size+2)] 103)).drew;rw[hs0]at h;simp only[Tg.cells,Lg.jo,A];exact h
 have hnews:∀j O,([dh (w.heap.size+2)]:List Value)[j]?=some O->P.cell? (Addr.add ⟨w.heap.size+3,0,none⟩ j)=some O:=by
  intro j O hj;have o:=(au.new (l.alloc (.cells #[II ((n:Int)+1),.string f,II tp,II tq,II d,II k,II G.day,.bool true] 105)) #[PP (w.heap.size+2)] 103).drew;have e:(l.alloc (.cells #[II ((n:Int)+1),.string f,II tp,II tq,II d,II k,II G.day,.bool true] 105)).heap.size=w.heap.size+3:=by simp[hs0]
  rw[e,<-K]at o;exact World.news_of_block o j O hj
 have hL1:=(q.ax U).ax L;have hrow1:=aB (aB acF U (fun _ _ x=>x)) L (fun _ _ x=>x);have hmx:n+1<=maxLen:=by unfold maxLen;omega
 have lH:(n+1) * 8<=140737488355328:=by omega
 obtain⟨i0,hi0,hz0,hz1,hz2⟩:=wM;have hone:∀O∈([dh (w.heap.size+2)]:List Value),O.oneCell'=true:=by simp[dh,Value.oneCell']
 have hnot:¬(w.heap.size+2)∈m.tb:=fun h=>by have:=q.aO.lt (jL h);omega
 obtain⟨HCu,Vz,HR,Jq,CE,W,HL,v,Zn,HW,HW1⟩:=QH hC (show dP.length+1=G.tr.length+1 by rw[<-hC.tb,q.aO.len]) hrow1 hnews hone hsz1 q hL1 ML J K;have HB:=ai (L.ay b0 idd);have R:=ai (L.ay bx0 idd);obtain⟨HNB,HNO,HK⟩:=fK hnb hnot (U.trans L);clear hC acF q ML J b0 bx0 hrow1 hnews hone K hsz1 hL1 U L hnb hnot;go_enter Tryz.func178,Tryz.ntmps178;go_wp2;go_region;rw[<-ae HW];clear v2 v4;have l1:bv≠w.heap.size+2:=by omega
 have l2:bv≠w.heap.size+2+1:=by omega
 have l3:bv<l.heap.size:=by omega
 have l4:bv<w.heap.size+2:=by omega
 have l5:bv<w.heap.size+2+1:=by omega
 go_wp2;obtain⟨Fact,VH⟩:∃Fact:Nat->Nat->World->Prop,Fact=fun g cap u=>bz u bv E H { G with tr:=G.tr++[⟨G.jo ⟨s,f,tp,tq,d,k,r⟩,true⟩] } { m with tv:=.slice (some ⟨g,0,none⟩) (n+1) cap,tb:=m.tb++[w.heap.size+2] } /\
  (∀b,Lm.F { m with tv:=.slice (some ⟨g,0,none⟩) (n+1) cap,tb:=m.tb++[w.heap.size+2] } b->m.F b\/b=w.heap.size+2\/w.heap.size+4<=b)/\aj (fun b=>b=bv\/m.tv.ownBlock=some b) P u:=⟨_,rfl⟩
 obtain⟨T,p⟩:∃T:Nat->Nat->Act,T=fun g cap=>{ tmps:=#[PP bv,.agg #[II s,.string f,II tp,II tq,II d,II k,II r],PP w.heap.size,PP (w.heap.size+1),PP bv,PP bv,.pointer (some ⟨bv,2,none⟩),.slice B n C,II (n:Int),II ((n:Int)+1),PP bv,PP bv,.pointer (some ⟨bv,4,none⟩),II G.day,PP (w.heap.size+1),.pointer (some ⟨w.heap.size+1,6,none⟩),PP bv,PP bv,PP bv,.pointer (some ⟨bv,2,none⟩),.slice B n C,.agg #[II ((n:Int)+1),.string f,II tp,II tq,II d,II k,II G.day],.agg #[II ((n:Int)+1),.string f,II tp,II tq,II d,II k,II G.day,.bool true],PP (w.heap.size+2),.slice (some ⟨w.heap.size+2+1,0,none⟩) 1 1,.slice (some ⟨g,0,none⟩) (n+1) cap,PP bv,.pointer (some ⟨bv,2,none⟩),undef,undef,undef,undef,undef,undef,undef],defers:=[] }:=⟨_,rfl⟩
 obtain⟨Vu,HTm⟩:=aZ VH p;clear VH p;refine Code.wp_mono (Q:=Exit.then (fun a u=>∃g cap,a=T g cap/\Fact g cap u) (fun _ _ _=>False)) ?tail ?walk
 case walk =>
  go_region_law (first | (rw[<-ae HW1];refine step_append_lies _ rfl (.tmp 20) (.tmp 24) 96 rfl 0 103 i0 (.pointer none) 1 8 Tryz.underlying96 hi0 hz0 hz1 hz2 rfl (by decide) (.slice B n C) n (m.tb.map dh) rfl (ae HR) ⟨w.heap.size+3,0,none⟩ 1 1 [dh (w.heap.size+2)] rfl rfl (ae Jq) (ae CE) (by omega) hmx lH (by omega) (w.heap.size+4) (ae W) ?_;intro g cap w2 hown2 hgrow hat hlt;have Ec:=ai hown2;have HG2:=ai hgrow;have HA2:=ai hat;have X:au w2 bv (rZ E H m G.day) 100:=(hgrow.block bv (ae v).cO.lt (fun e=>(ae v).JH (.inl (by rw[ae Zn];exact e.symm)))).trans (ae v).cO;have v32:=X.cell 2;have f32:=X.frozen 2;simp only[rZ]at v32;simp at v32;have HB2:=ai X;have x02:CC w2 w.heap.size 0 (PP bv):=(World.cell?_of_block (a:=⟨w.heap.size,0,none⟩) (hgrow.block w.heap.size (ae R).lt (fun e=>dC (ae HR) e.symm (ae R) (by decide) rfl))).trans ((ae R).cell 0);clear hown2 hgrow hat X))
  all_goals
   obtain⟨S,a2,a3⟩:=(ae v).Ji A (ae HNB) (ae HNO) (ae Ec) (by rw[ae Zn];exact ae HG2) (by rw[ae Zn];exact ae HA2) (ae W);exact⟨g,cap,by rw[ae HTm],by rw[ae Vu];exact⟨S,a2,a3⟩⟩
 case tail =>
  intro e a u h;cases e <;> (try exact (h:False).elim)
  obtain⟨g,cap,ha,hf⟩:=h;rw[ae Vu]at hf;rw[ae HTm]at ha;obtain⟨S,a2,a3⟩:=hf;simp only at ha;subst ha;have b3:=a3.ay (ae HB) (by
   rintro (e | e)
   ·omega
   ·exact dC (ae v).aO.dJ e (ae HB) (by decide) rfl)
  have bx3:=a3.ay (ae R) (by
   rintro (e | e)
   ·omega
   ·exact dC (ae v).aO.dJ e (ae R) (by decide) rfl)
  clear v20 x0 t0 t1 t2 t3 t4 t5 t6;have x0:CC u w.heap.size 0 (PP bv):=bx3.cell 0;obtain⟨t0,t1,t2,t3,t4,t5,t6⟩:=b3.c7;have p:=yh bv E H _ _ 1 (G.jo ⟨s,f,tp,tq,d,k,r⟩) u S hlen;simp only[Tr.val,Lg.jo,A]at p;obtain⟨HT,V,D,YK⟩:=gY p S a3 a2;clear p S a3 a2;go_wp2_with fail;refine (ae HT).mono ?_;rintro e y ⟨rfl,m4,c1,c2,Y,c4,c5⟩;have hno:∀{b:Nat} {c:Array Value} {t:TypeId},au u b c t->t≠100->t≠62->au y b c t:=fun o h1 h2=>Y.ay o (by
   rintro (e | e)
   ·exact au.ne o (ae V).cO h1 e
   ·exact dC (ae V).aO.fQ e o (fun e=>h2 e.symm) rfl)
  have bx4:=hno bx3 (by decide) (by decide);have y0:CC y w.heap.size 0 (PP bv):=bx4.cell 0;obtain⟨w5,hw5⟩:=gy (y.alloc (.cells #[.func (.func 211) #[] #[PP w.heap.size,PP (w.heap.size+1)]] 1));have M:aj aA y w5:=by rw[hw5];exact (aj.refl aA y).alloc _
  have b5:au w5 y.heap.size #[.func (.func 211) #[] #[PP w.heap.size,PP (w.heap.size+1)]] 1:=by rw[hw5];exact au.new _ _ _
  have hc1:iy P bv bk lo false N G.nt dP m I:=(ae HCu).ax (ae HK);have hc3:iy u bv bk lo false N G.nt (m.tb++[w.heap.size+2]) { m with tv:=.slice (some ⟨g,0,none⟩) (n+1) cap,tb:=m.tb++[w.heap.size+2] } I:=(hc1.aC (ae D) (nZ.gZ (fun b o=>by
   rcases o with e | e
   ·subst e;exact⟨_,100,(ae v).cO,by unfold pO;decide⟩
   ·obtain⟨cs,hcs⟩:=aF (ae v).aO.dJ e;exact⟨cs,103,hcs,by unfold pO;decide⟩))).Sv (m':={ m with tv:=.slice (some ⟨g,0,none⟩) (n+1) cap,tb:=m.tb++[w.heap.size+2] }) rfl (fun Z z p=>absurd (hc1.sF Z z p) Bool.false_ne_true)
  have hc4:iy y bv bk lo false N G.nt (m.tb++[w.heap.size+2]) m4 I:=by
   have:=(hc3.aC Y (nZ.gZ (fun b o=>by
    rcases o with e | e
    ·subst e;exact⟨_,100,(ae V).cO,by unfold pO;decide⟩
    ·obtain⟨cs,hcs⟩:=aF (ae V).aO.fQ e;exact⟨cs,62,hcs,by unfold pO;decide⟩))).Sv (m':=m4) c4 (fun Z z p=>absurd (hc1.sF Z z p) Bool.false_ne_true)
   rw[c5.1]at this;exact this
  have b4:=hno b3 (by decide) (by decide);have hbk:bH w5 bv bk lo (.jh (G.jo ⟨s,f,tp,tq,d,k,r⟩)) (.func (.func 211) #[] #[PP w.heap.size,PP (w.heap.size+1)]):=by
   refine⟨_,_,rfl,rfl,w.heap.size,hlo,rfl,M.ay bx4 idd,?_⟩;have:=M.ay b4 idd;simp only[Lg.jo,A,Tr.cells];exact this
  have hN:=Ry bv E H _ _ [.jh (G.jo ⟨s,f,tp,tq,d,k,r⟩)] [.func (.func 211) #[] #[PP w.heap.size,PP (w.heap.size+1)]] y.heap.size 1 1 w5 bk lo false N (m.tb++[w.heap.size+2]) I (c1.ax M) (hc4.ax M) (fun x hx=>by rw[List.mem_singleton.1 hx];intro h;cases h) (fun i Z c z hc=>by
   cases i with
   | zero=>simp at z hc;subst z hc;exact hbk
   | succ i=>simp at z) hna kX hnf (by omega) rfl rfl (World.news_of_block b5) (by simp[Value.oneCell']) (fun x hx h=>by rw[List.mem_singleton.1 hx]at h;cases h)
  obtain⟨uS,Pj,TU,HC2,PD,LY⟩:=nH hN hw5 c1 c2 Y M;clear hN hw5 c1 c2 Y M b5 hno hc1 hc3 hc4 hbk b4 c4 c5 x0 t0 t1 t2 t3 t4 t5 t6;go_wp2_with fail;rw[<-ae Pj];refine (ae uS).mono ?_;rintro e w6 ⟨rfl,m',d1,d2,d3',-,d5⟩;have d3:=d3'.mono (fun b h=>show m4.F b from BA h);go_wp2;go_end0;have e4:(ae D).size=(ae D).size:=rfl;refine⟨rfl,m',?_,fun b o=>?_,?_,w.heap.size+2,.func (.func 211) #[] #[PP w.heap.size,PP (w.heap.size+1)],ae Vz,?_⟩
  ·have e:G.lC ⟨s,f,tp,tq,d,k,r⟩=(Lg.told { G with tr:=G.tr++[⟨G.jo ⟨s,f,tp,tq,d,k,r⟩,true⟩] } 1 ⟨(n:Int)+1,f,tp,tq,d,k,G.day⟩).aY [.jh (G.jo ⟨s,f,tp,tq,d,k,r⟩)]:=by
    simp only[Lg.lC,Lg.aC,Lg.jo,A]
   rw[e];simp only[Lg.jo,A]at d1 ⊢;exact d1
  ·have s3:=(ae D).size;have s1:=ae W;have s4:=(ae PD).size;have s5:=(ae LY).size;rcases d2 b o with h | h
   ·rcases ae HC2 b h with h | h
    ·rcases ae YK b h with h | h | h
     ·exact .inl h
     ·right;omega
     ·right;omega
    ·right;omega
   ·right;omega
  ·have s1:=ae W;have s3:=(ae D).size;refine (((ae HK).aP.trans ((ae D).mono (fun b h=>?_))).from ((ae PD).mono (fun b h=>?_))).from (((ae LY).aP.trans d3).mono (fun b h=>?_))
   ·rcases h with h | h
    ·exact .inl h
    ·exact .inr (.inl h)
   ·rcases h with h | h
    ·exact .inl (.inl h)
    ·exact .inl (jL (.inl h))
   ·rcases ae HC2 b h with h | h
    ·rcases ae YK b h with h | h | h
     ·exact .inl (.inr h)
     ·right;omega
     ·right;omega
    ·right;omega
  ·rw[<-(ae HCu).tb];exact d5
end Go.Proofs.YtigaphnafnpfnaaGreatDoor
