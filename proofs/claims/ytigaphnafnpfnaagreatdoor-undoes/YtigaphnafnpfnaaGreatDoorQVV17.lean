import Derived.Test.YtigaphnafnpfnaaGreatDoorQVV8
import Derived.Lib.SliceRun
set_option linter.unusedVariables false
set_option linter.unusedSimpArgs false
set_option maxHeartbeats 8000000
set_option maxRecDepth 100000
namespace Go.Proofs.YtigaphnafnpfnaaGreatDoor
open Go.RowKit Go.Maps Go.Lib
attribute [local go_sem ↓] Go.wp_at_zero Go.wp_at_succ
theorem XR(bv a l:Nat)(V:aS)(s:ByteArray)(w:World)(bk:Nat->Nat)(R:dL w bv a l V)(hn:sJ s true)(hlen:s.size<=100)(X:∀i,i<V.nb->(V.B i).sym≠s)(hnb:V.nb<6)(hna:V.lg.ud+V.lg.na<3000000) :
 CT 27 #[PP bv,.string s] w fun e w'=>∃b bG,e=.returned (II 0)/\w.heap.size<=b/\dL w' bv a l (V.bU s b bG)/\aj (fun x=>x=a\/x=bv\/V.lm.F x) w w'/\(∀x,bG.F x->V.lm.F x\/w.heap.size<=x)/\∃cl,iy w' bv bk w.heap.size true (V.lm.ac.map Prod.snd) [.bU s] V.lm.tb bG cl:=by
 have hml:s.size<=maxLen:=by unfold maxLen;omega
 obtain⟨A,r,VF,Q⟩:=R.iM;have Y:A (sl s)=none:=by
  cases h:A (sl s) with
  | none=>rfl
  | some b =>
    obtain⟨i,hi,_,S⟩:=Q s b h;exact absurd S (X i hi)
 have hK:∀w',aj aA w w'->(Instr.lookup 94 (.map (some a)) (.string s) false).run Tryz.prog w'=.ok (.pointer none) w'/\w'.cell? ⟨bv,0,none⟩=some (.map (some a))/\(∀ty,(Builtin.len_ #[94] ty #[.map (some a)]).run Tryz.prog w'=.ok (II V.nb) w'):=fun w' k=>by
  refine⟨?_,(k.ay R.cO idd).cell 0,fun ty=>(r.aC k idd).len Tryz.underlying94 ty⟩;rw[(r.aC k idd).look yU Tryz.underlying94 (qA _) (WideMaps.keyOf_string_mk Tryz.underlying9 hml)];show _=Result.ok (ja none) _;rw[<-Y];rfl
 have K:¬(a=bv\/V.lm.F a):=by
  rintro (e | e)
  ·exact r.ne R.cO e
  ·obtain⟨c,t',W,_⟩:=R.aO.aO.gZ e;exact r.ne W rfl
 have AA:∀x,w.heap.size<=x->¬(x=bv\/V.lm.F x):=by
  rintro x hx (e | e)
  ·have:=R.cO.lt;omega
  ·have:=R.aO.aO.lt e;omega
 have hU:∀w' b,aj (fun x=>x=bv\/V.lm.F x) w w'->∃v,(Instr.mapUpdate 94 (.map (some a)) (.string s) (PP b)).run Tryz.prog w'=.ok () v/\kG v 9 a (BU A (sl s) b) (V.nb+1)/\aj (fun i=>i=a) w' v:=fun w' b k =>
  (r.aC k K).put yU Tryz.underlying94 (by unfold maxLen;omega) (WideMaps.keyOf_string_mk Tryz.underlying9 hml) trivial Y
 have ZY:∀w',aj aA w w'->CT 51 #[PP bv,.string (⟨#[108,105,115,116,32]⟩++s)] w' fun e v=>e=.returned (.tuple #[])/\∃m',bz v bv a l V.lg.begun m'/\(∀b,m'.F b->V.lm.F b\/w'.heap.size<=b)/\aj (fun b=>b=bv\/V.lm.F b) w' v/\(m'.tb=V.lm.tb/\m'.tv=V.lm.tv)/\m'.ac.map Prod.snd=V.lm.ac.map Prod.snd++[[]]:=fun w' k=>by
  refine (oQ bv a l V.lg V.lm _ w' (R.aO.ax k) hna (by rw[ByteArray.size_append];show 0<5+s.size;omega) (by rw[ByteArray.size_append];show 5+s.size<=290;omega) w' (aj.refl aA w')).mono ?_;rintro e v ⟨rfl,m',h1,S,C,h4,-,h5⟩;exact⟨rfl,m',h1,S,C,h4,h5⟩
 have fin:∀b d j g f z q,bz d bv a l V.lg.begun j->aj (fun x=>x=bv\/V.lm.F x) w d->(∀x,j.F x->V.lm.F x\/w.heap.size<=x)->d.heap.size<=b->aj aA d g->au g b (mD s).cells 158->kG f 9 a (BU A (sl s) b) (V.nb+1)->aj (fun i=>i=a) g f ->
  bz z bv a l (V.lg.begun.aY [.bU s]) q->(∀x,q.F x->j.F x\/f.heap.size<=x)->aj (fun x=>j.F x) f z ->
  w.heap.size<=b/\dL z bv a l (V.bU s b q)/\aj (fun x=>x=a\/x=bv\/V.lm.F x) w z/\(∀x,q.F x->V.lm.F x\/w.heap.size<=x):=by
  intro b d j g f z q n m D hb o hblk m4 p U T J;have Rb:dL d bv a l { V with lg:=V.lg.begun,lm:=j }:=R.kM n m;have kk:=o.aP.trans p;have mBb:=r.aC m K;have R4:dL f bv a l (aS.list { V with lg:=V.lg.begun,lm:=j } s b):=Rb.list hb (p.ay hblk (Ne.symm ((mBb.aC o idd).ne hblk))) kk X ⟨_,m4,Dy trivial,A,mBb,VF,Q,fun s' h=>AO trivial (fun e=>h (SK e))⟩;have R5:=R4.kM U (J.mono (fun x h=>.inr h));have kw4:aj (fun x=>x=a\/x=bv\/V.lm.F x) w f:=(m.mono (fun x h=>.inr h)).trans (kk.mono (fun x h=>.inl h));refine⟨Nat.le_trans m.size hb,R5,kw4.from (J.mono (fun x h=>(D x h).imp_left (fun h=>.inr (.inr h)))),fun x hx=>?_⟩;rcases T x hx with h | h
  ·exact D x h
  ·exact .inr (Nat.le_trans kw4.size h)
 have hV:∀d j g f,bz d bv a l V.lg.begun j->aj (fun x=>x=bv\/V.lm.F x) w d->aj aA d g->aj (fun i=>i=a) g f->g.cell? ⟨bv,0,none⟩=some (.map (some a))/\f.cell? ⟨bv,0,none⟩=some (.map (some a))/\bz f bv a l V.lg.begun j/\(∀{b c t},au g b c t->au f b c t):=fun d j g f n m o p=>by
  have m3:=(r.aC m K).aC o idd;have u:∀{b c t},au g b c t->au f b c t:=fun h=>p.ay h (Ne.symm (m3.ne h))
  have C:=o.ay n.cO idd;refine⟨C.cell 0,(u C).cell 0,(n.ax o).aC p (Ne.symm (m3.ne C)) (fun y hy e=>?_),u⟩;obtain⟨c,t',W,_⟩:=(n.ax o).aO.gZ hy;exact m3.ne W e.symm
 obtain⟨HV,HK,HU,HF,HBg,HO⟩:=nH hV hK hU fin ZY AA;have e6:decide ((6:Int)<=(V.nb:Int))=false:=by simp;omega
 clear hV hK hU fin Y r VF Q R X hnb ZY AA K;have c1:=gu (P:=Tryz.prog) ⟨#[108,105,115,116,32]⟩ s (by show 5+s.size<=1000000;omega);go_enter Tryz.func27,Tryz.ntmps27;go_wp2_with fail;refine (hn _).mono ?_;rintro e w1 ⟨rfl,k1⟩;have N:=k1.ay (au.new w #[PP bv] 35) idd;have Z:=((aj.refl aA w).alloc (.cells #[PP bv] 35)).trans k1;have xb1:CC w1 w.heap.size 0 (PP bv):=N.cell 0;obtain⟨L1,v0,L3⟩:=ae HK w1 Z;clear k1;go_wp2_with fail;refine (xI s w1 (by omega)).mono ?_;rintro e w2 ⟨rfl,k2⟩;clear L1 v0 L3 xb1;have k12:=Z.trans k2;have H:=k2.ay N idd;have xb2:CC w2 w.heap.size 0 (PP bv):=H.cell 0;obtain⟨L,E⟩:=gy (w2.alloc (.cells #[.string s] 9));have I:aj aA w L:=by rw[E];exact k12.alloc _
 have b2a:au L w.heap.size #[PP bv] 35:=by rw[E];exact H.alloc _
 have o2a:au L w2.heap.size #[.string s] 9:=by rw[E];exact au.new _ _ _
 obtain⟨HW,rW⟩:=aZ E (ae HBg L I);have l2:=H.lt;have ab5:=k12.size;clear E;go_wp2_with fail;rw[<-ae HW];refine (ae rW).mono ?_;rintro e d ⟨rfl,j,n,D,m,htb,hac⟩;obtain⟨WH,HAc⟩:=aZ htb hac;clear htb hac;have O:=m.ay b2a (ae HO _ (Nat.le_refl _));have ob:=m.ay o2a (ae HO _ (by omega));have J4:=I.aP.trans m;have EF:∀x,j.F x->V.lm.F x\/w.heap.size<=x:=fun x h=>(D x h).imp_right (fun h=>Nat.le_trans I.size h)
 have xb:CC d w.heap.size 0 (PP bv):=O.cell 0;have ox:CC d w2.heap.size 0 (.string s):=ob.cell 0;have vb:CC d bv 0 (.map (some a)):=n.cO.cell 0;obtain⟨HLb,M,Vw,Yp,HOb⟩:=mi n J4 EF O ob;clear n J4 D EF m I k12 Z k2 N H b2a o2a HW rW O ob xb2;go_wp2;go_region_held3 (fun w'=>w'.cell? ⟨bv,0,none⟩=some (.map (some a))/\w'.cell? ⟨w.heap.size,0,none⟩=some (PP bv)/\w'.cell? ⟨w2.heap.size,0,none⟩=some (.string s)) (go_keep)
  (first | (go_at_call 52;refine (Gv s _).mono ?_;rintro e g ⟨rfl,hb3,o⟩;have G:aj aA d g:=((aj.refl aA d).drew).trans o;obtain⟨f,hU4,m4,p⟩:=ae HU g d.heap.size ((ae M).trans G.aP);obtain⟨v3,v4,HL4,u⟩:=ae HV d j g f (ae HLb) (ae M) G p;have q3:=G.ay (ae Yp) idd;have p3:=G.ay (ae HOb) idd;have xb3:CC g w.heap.size 0 (PP bv):=q3.cell 0;have ox3:CC g w2.heap.size 0 (.string s):=p3.cell 0;have xb4:CC f w.heap.size 0 (PP bv):=(u q3).cell 0;have ox4:CC f w2.heap.size 0 (.string s):=(u p3).cell 0))
 have uS:=ai (nV bv a l V.lg.begun j (.bU s) (.func 54) #[PP w.heap.size,PP w2.heap.size] f bk w.heap.size true _ _ _ HL4 (iy.begun (ae WH) (ae HAc)) (fun _=>rfl) ⟨_,_,rfl,rfl,w.heap.size,w2.heap.size,Nat.le_refl _,ab5,rfl,u q3,u p3⟩ (by show 0<V.lg.na+1;omega) (by show V.lg.na+1<=3000000;omega) (by show 0+1<1000000000;omega));clear HL4;go_wp2_with fail;refine (ae uS).mono ?_;rintro e z ⟨rfl,q,U,T,J,-,c5⟩;go_wp2;go_ret;obtain⟨z1,z2,z3,z4⟩:=ae HF _ d j g f z q (ae HLb) (ae M) (ae Vw) (Nat.le_refl _) G hb3 m4 p U T (J.mono (fun b h=>BA h));exact⟨d.heap.size,q,rfl,z1,z2,z3,z4,_,c5⟩
open Go.RowKit
theorem TD(w:World):(zeroValue 103).run Tryz.prog w=.ok (.pointer none) w:=by kernel_rfl
theorem BH(g n cap:Nat)(w:World)(v:Value)(u:n<2000000000)(x:n+1<=cap)(f:w.cell? ⟨g,n,none⟩=some v)(b:w.frozen? ⟨g,n,none⟩=false) :
 CT 212 #[.slice (some ⟨g,0,none⟩) (n+1) cap,II (n:Int),II ((n:Int)+1)] w fun e w'=>e=.returned (.slice (some ⟨g,0,none⟩) n cap)/\∃q,w'=(w.drewN q).setCell ⟨g,n,none⟩ (.pointer none):=by
 have l:((n:Int) == (n:Int)+1)=false:=by simp;omega
 obtain⟨i0,c,y,i,z⟩:=wM;obtain⟨A,a⟩:∃A:Addr,(if cap=n+1 then some (⟨g,0,none⟩:Addr) else some ⟨g,n+1,none⟩)=some A:=by split <;> exact⟨_,rfl⟩
 have k:Hid (w.drew.setCells g (0+n * 1) []=w.drew):=rfl;have t:∀ty,(Builtin.clear_ #[96] ty #[.slice (some ⟨g,n,none⟩) 1 (cap-n)]).run Tryz.prog w.drew=.ok (.tuple #[]) (w.drew.setCells g n (List.replicate 1 (.pointer none))) :=
  fun ty=>Lib.run_clear_slice w.drew _ _ ty _ Tryz.underlying96 TD rfl rfl g n 1 _ (by omega) (fun j d=>by obtain rfl:j=0:=(by omega);show (w.cell? _).isSome=true;rw[show n+0=n from rfl,f];rfl) (fun j d=>by obtain rfl:j=0:=(by omega);exact b)
 have m:n+1-n=1:=by omega
 have o:n<=cap:=by omega
 have p:n+1-(n+1)=0:=by omega
 have r:n<=n+1:=by omega
 have s:(0:Int)<=(n:Int)+1:=by omega
 go_enter Tryz.func212,Tryz.ntmps212;go_wp2;go_region_law (first | (refine step_append_room rfl (.tmp 22) (.tmp 25) 96 rfl 103 i0 1 Tryz.underlying96 c i g 0 n cap (by simp[Act.eval,Act.put]) A 0 (cap-(n+1)) [] (by simp[Act.eval,Act.put,a]) rfl (by simp) (by simp) (by omega) (by simp) ?_;rw[ae k]));go_wp2;go_ret;exact⟨rfl,1,rfl⟩
theorem TE(w:World):(zeroValue 109).run Tryz.prog w=.ok (.slice none 0 0) w:=by kernel_rfl
theorem GN(g n cap:Nat)(w:World)(v:Value)(u:n<2000000000)(x:n+1<=cap)(f:w.cell? ⟨g,n,none⟩=some v)(b:w.frozen? ⟨g,n,none⟩=false) :
 CT 46 #[.slice (some ⟨g,0,none⟩) (n+1) cap,II (n:Int),II ((n:Int)+1)] w fun e w'=>e=.returned (.slice (some ⟨g,0,none⟩) n cap)/\∃q,w'=(w.drewN q).setCell ⟨g,n,none⟩ (.slice none 0 0):=by
 have l:((n:Int) == (n:Int)+1)=false:=by simp;omega
 obtain⟨i0,c,y,i,z⟩:=QP;obtain⟨A,a⟩:∃A:Addr,(if cap=n+1 then some (⟨g,0,none⟩:Addr) else some ⟨g,n+1,none⟩)=some A:=by split <;> exact⟨_,rfl⟩
 have k:Hid (w.drew.setCells g (0+n * 1) []=w.drew):=rfl;have t:∀ty,(Builtin.clear_ #[97] ty #[.slice (some ⟨g,n,none⟩) 1 (cap-n)]).run Tryz.prog w.drew=.ok (.tuple #[]) (w.drew.setCells g n (List.replicate 1 (.slice none 0 0))) :=
  fun ty=>Lib.run_clear_slice w.drew _ _ ty _ Tryz.underlying97 TE rfl rfl g n 1 _ (by omega) (fun j d=>by obtain rfl:j=0:=(by omega);show (w.cell? _).isSome=true;rw[show n+0=n from rfl,f];rfl) (fun j d=>by obtain rfl:j=0:=(by omega);exact b)
 have m:n+1-n=1:=by omega
 have o:n<=cap:=by omega
 have p:n+1-(n+1)=0:=by omega
 have r:n<=n+1:=by omega
 have s:(0:Int)<=(n:Int)+1:=by omega
 go_enter Tryz.func46,Tryz.ntmps46;go_wp2;go_region_law (first | (refine step_append_room rfl (.tmp 22) (.tmp 25) 97 rfl 109 i0 1 Tryz.underlying97 c i g 0 n cap (by simp[Act.eval,Act.put]) A 0 (cap-(n+1)) [] (by simp[Act.eval,Act.put,a]) rfl (by simp) (by simp) (by omega) (by simp) ?_;rw[ae k]));go_wp2;go_ret;exact⟨rfl,1,rfl⟩
theorem SA(tmps:Array Value)(H:Nat)(w:World)(x:Int)(c0 c1 d e c5 f c7 c8 c9 a b:Int)(c:ByteArray)(g:tmps.getD 4 undef=PP H)(i:tmps.getD 5 undef=II x)
 (j:au w H #[II c0,II c1,.string c,II d,II e,II c5,II f,II c7,II c8,II c9,II a,II b] 54) :
 (results Tryz.f101 tmps).run Tryz.prog w=.ok (.tuple #[.agg #[II c0,II c1,.string c,II d,II e,II c5,II f,II c7,II c8,II c9,II a,II b],II x]) w:=by
 obtain⟨k,l,o,p,q,r,s,t,u,v,m,n⟩:=j.c12;simp only[Array.getD_eq_getD_getElem?]at g i;simp[results,Tryz.results101,go_sem,g,i,k,l,o,p,q,r,s,t,u,v,m,n]
theorem Sr{a:World}{r:Nat}(v0 b v2 v3 v4 v5 e f g v9 c d:Value):aj (fun x=>x=r) a ((((((((((((a.setCell ⟨r,0,none⟩ v0).setCell ⟨r,1,none⟩ b).setCell ⟨r,2,none⟩ v2).setCell ⟨r,3,none⟩ v3).setCell ⟨r,4,none⟩ v4).setCell ⟨r,5,none⟩ v5).setCell ⟨r,6,none⟩ e).setCell ⟨r,7,none⟩ f).setCell ⟨r,8,none⟩ g).setCell ⟨r,9,none⟩ v9).setCell ⟨r,10,none⟩ c).setCell ⟨r,11,none⟩ d) :=
 (((((((((((((aj.refl (fun x=>x=r) a).setCell (p:=⟨r,0,none⟩) (.inl rfl) _).setCell (p:=⟨r,1,none⟩) (.inl rfl) _).setCell (p:=⟨r,2,none⟩) (.inl rfl) _).setCell (p:=⟨r,3,none⟩) (.inl rfl) _).setCell (p:=⟨r,4,none⟩) (.inl rfl) _).setCell (p:=⟨r,5,none⟩) (.inl rfl) _).setCell (p:=⟨r,6,none⟩) (.inl rfl) _).setCell (p:=⟨r,7,none⟩) (.inl rfl) _).setCell (p:=⟨r,8,none⟩) (.inl rfl) _).setCell (p:=⟨r,9,none⟩) (.inl rfl) _).setCell (p:=⟨r,10,none⟩) (.inl rfl) _).setCell (p:=⟨r,11,none⟩) (.inl rfl) _)
theorem FH(base j:Nat)(A:List bD)(R:List Rc)(o:ByteArray)(av u:Value)(S:RS)(id:Int)(w:World)(h:RV w base j A R o av u)(q:oN A S)(D:A.length<=1000000000)(C:S.l.length<=1000)(r:iU S.l id=none) :
 CT 101 #[PP j,II id] w fun e w'=>e=.returned (.tuple #[.agg ji,II 6])/\aj aA w w':=by
 obtain⟨d,c⟩:=gy (w.alloc (.cells ji 54));have g:aj aA w d:=by rw[c];exact (aj.refl aA w).alloc _
 have s:d.heap.size=w.heap.size+1:=by rw[c];simp
 have p:au d w.heap.size ji 54:=by rw[c];exact au.new w _ _
 have f:=ai (iH base j A R o av u S d (h.ax g) q D);rw[s]at f;obtain⟨v,z,n,y⟩:=gY p g c r;simp only[ji]at n ⊢;clear q h g s p c r;go_enter Tryz.func101,Tryz.ntmps101;go_wp2_with fail;rw[<-ae n];refine (ae f).mono ?_;rintro e w2 ⟨rfl,⟨m,st⟩,i⟩;have k:=ai (pK _ _ S m id w2 st C);rw[ae y]at k;have B:=ai i;have a:=i.ay (ae v) idd;have z0:CC w2 w.heap.size 0 (II 0):=a.cell 0;have F:=a.frozen 0;have U:CC w2 w.heap.size 1 (II 0):=a.cell 1;have G:=a.frozen 1;have z2:CC w2 w.heap.size 2 (.string ⟨#[]⟩):=a.cell 2;have J:=a.frozen 2;have z3:CC w2 w.heap.size 3 (II 0):=a.cell 3;have K:=a.frozen 3;have z4:CC w2 w.heap.size 4 (II 0):=a.cell 4;have L:=a.frozen 4;have z5:CC w2 w.heap.size 5 (II 0):=a.cell 5;have M:=a.frozen 5;have X:CC w2 w.heap.size 6 (II 0):=a.cell 6;have N:=a.frozen 6;have Y:CC w2 w.heap.size 7 (II 0):=a.cell 7;have O:=a.frozen 7;have Z:CC w2 w.heap.size 8 (II 0):=a.cell 8;have P:=a.frozen 8;have z9:CC w2 w.heap.size 9 (II 0):=a.cell 9;have Q:=a.frozen 9;have V:CC w2 w.heap.size 10 (II 0):=a.cell 10;have H:=a.frozen 10;have W:CC w2 w.heap.size 11 (II 0):=a.cell 11;have I:=a.frozen 11;have x:=ai a;clear st i f a;go_wp2_with fail;refine (ae k).mono ?_;rintro e E ⟨rfl,t⟩;rw[t];clear t E;simp only[oi];go_wp2;refine bodyPost_ret (SA _ w.heap.size _ 6 0 0 0 0 0 0 0 0 0 0 0 ⟨#[]⟩ rfl rfl ?_) rfl ⟨rfl,?_⟩
 ·exact SH (ae x) _ _ _ _ _ _ _ _ _ _ _ _
 ·exact ((ae z).trans (ae B)).from ((Sr _ _ _ _ _ _ _ _ _ _ _ _).mono (fun b T=>.inr (by omega)))
theorem FI(base s k:Nat)(A:List bD)(R:List Rc)(x:ByteArray)(av G:Value)(S:RS)(id:Int)(w:World)(h:RV w base s A R x av G)(B:oN A S)(O:A.length<=1000000000)(D:S.l.length<=1000)(n:iU S.l id=some k) :
 CT 101 #[PP s,II id] w fun e w'=>e=.returned (.tuple #[.agg (qO (ak S.l k)),II 0])/\aj aA w w':=by
 obtain⟨f,d⟩:=gy (w.alloc (.cells ji 54));have q:aj aA w f:=by rw[d];exact (aj.refl aA w).alloc _
 have E:f.heap.size=w.heap.size+1:=by rw[d];simp
 have y:au f w.heap.size ji 54:=by rw[d];exact au.new w _ _
 have i:=ai (iH base s A R x av G S f (h.ax q) B O);rw[E]at i;obtain⟨H,K,v,J⟩:=gY y q d n;have C:=(jC n).1;obtain⟨o,p⟩:=dQ (ak S.l k);have M:=ai p;rw[p];simp only[ji]at v;simp only[qO];obtain⟨N,j⟩:=dQ S.l.length;have t:=ai j;rw[j]at C D;clear B h q E y d n p j;go_enter Tryz.func101,Tryz.ntmps101;go_wp2_with fail;rw[<-ae v];refine (ae i).mono ?_;rintro e w2 ⟨rfl,⟨m,st⟩,r⟩;have u:=ai (pK _ _ S m id w2 st (by rw[ae t];exact D));rw[ae J]at u;obtain⟨g,gc,u1,_,_,lg,_,z,_⟩:=st.SG (ae t) (by omega);have c:=z k C;rw[ae M]at c;have o0:CC w2 g (k * 13) (II o.id):=c 0 _ rfl;have o1:CC w2 g (k * 13+1) (II o.aG):=c 1 _ rfl;have o2:CC w2 g (k * 13+2) (.string o.sym):=c 2 _ rfl;have o3:CC w2 g (k * 13+3) (II o.side):=c 3 _ rfl;have o4:CC w2 g (k * 13+4) (II o.kind):=c 4 _ rfl;have o5:CC w2 g (k * 13+5) (II o.af):=c 5 _ rfl;have o6:CC w2 g (k * 13+6) (II o.az):=c 6 _ rfl;have o7:CC w2 g (k * 13+7) (II o.entered):=c 7 _ rfl;have o8:CC w2 g (k * 13+8) (II o.aH):=c 8 _ rfl;have o9:CC w2 g (k * 13+9) (II o.filled):=c 9 _ rfl;have o10:CC w2 g (k * 13+10) (II o.aX):=c 10 _ rfl;have o11:CC w2 g (k * 13+11) (II o.exp):=c 11 _ rfl;have XY:CC w2 g (k * 13+12) (II o.place):=c 12 _ rfl;have L:=ai r;have a:=r.ay (ae H) idd;have z0:CC w2 w.heap.size 0 (II 0):=a.cell 0;have Q:=a.frozen 0;have z1:CC w2 w.heap.size 1 (II 0):=a.cell 1;have T:=a.frozen 1;have z2:CC w2 w.heap.size 2 (.string ⟨#[]⟩):=a.cell 2;have W:=a.frozen 2;have z3:CC w2 w.heap.size 3 (II 0):=a.cell 3;have X:=a.frozen 3;have z4:CC w2 w.heap.size 4 (II 0):=a.cell 4;have Y:=a.frozen 4;have z5:CC w2 w.heap.size 5 (II 0):=a.cell 5;have Z:=a.frozen 5;have z6:CC w2 w.heap.size 6 (II 0):=a.cell 6;have fz6:=a.frozen 6;have z7:CC w2 w.heap.size 7 (II 0):=a.cell 7;have fz7:=a.frozen 7;have z8:CC w2 w.heap.size 8 (II 0):=a.cell 8;have fz8:=a.frozen 8;have z9:CC w2 w.heap.size 9 (II 0):=a.cell 9;have fz9:=a.frozen 9;have z10:CC w2 w.heap.size 10 (II 0):=a.cell 10;have U:=a.frozen 10;have z11:CC w2 w.heap.size 11 (II 0):=a.cell 11;have V:=a.frozen 11;have lz:=a.lt;have I:=ai a;clear st r i a z c;go_wp2_with fail;refine (ae u).mono ?_;rintro e P ⟨rfl,F⟩;rw[F];clear F P;simp only[oi];go_wp2;refine bodyPost_ret (SA _ w.heap.size _ 0 o.id o.aG o.side o.kind o.af o.az o.entered o.aH o.filled o.aX o.exp o.sym rfl rfl ?_) rfl ⟨rfl,?_⟩
 ·exact (SH (ae I) _ _ _ _ _ _ _ _ _ _ _ _).alloc _
 ·exact (((ae K).trans (ae L)).from ((Sr _ _ _ _ _ _ _ _ _ _ _ _).mono (fun b hb=>.inr (by omega)))).alloc _
end Go.Proofs.YtigaphnafnpfnaaGreatDoor
