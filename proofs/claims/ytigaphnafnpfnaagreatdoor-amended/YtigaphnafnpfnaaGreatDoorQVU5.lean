import Derived.Test.YtigaphnafnpfnaaGreatDoorQVR5
import Derived.Deep.CutRange
set_option linter.unusedVariables false
set_option linter.unusedSimpArgs false
set_option maxHeartbeats 8000000
set_option maxRecDepth 100000
namespace Go.Proofs.YtigaphnafnpfnaaGreatDoor
open Go.RowKit
attribute [local go_sem ↓] Go.wp_at_zero Go.wp_at_succ
def RS.kK(S:RS)(k:Nat)(x:Tg):RS:=(S.L6 k ⟨x.t,false⟩).tell 2 x.t
def RS.KD(S:RS)(k:Nat)(x:Tg)(ib is:Nat)(again:Bool):RS:=((S.kK k x).bf ib x.t.qty again).bf is x.t.qty again
theorem FN{l:List Ord}{i:Nat}{y:Ord}(hi:i<l.length)(hy:y.id=(ah l i).id)(id:Int):fK (l.set i y) id=fK l id:=by
 unfold fK
 induction l generalizing i with
 | nil=>simp at hi
 | cons a l ih =>
   cases i with
   | zero =>
     have:(ah (a :: l) 0).id=a.id:=rfl
     rw[this]at hy
     simp only[List.set_cons_zero,List.findIdx?_cons,hy]
   | succ i =>
     have hi2:i<l.length:=by simpa using hi
     have:=ih hi2 (by rw[hy];rfl)
     simp only[List.set_cons_succ,List.findIdx?_cons,this]
theorem RS.vV(S:RS){i:Nat}(hi:i<S.l.length)(n:Int)(again:Bool)(id:Int):fK (S.bf i n again).l id=fK S.l id∧(S.bf i n again).l.length=S.l.length:=by
 unfold RS.bf
 split
 ·unfold RS.stand RS.iU RS.cu
  simp only[List.set_set,List.length_set,and_true]
  exact FN hi (by rw[bG hi];rfl) id
 ·unfold RS.cu
  simp only[List.length_set,and_true]
  exact FN hi (y:={ nM (ah S.l i) n with aG:=wrap64 ((ah S.l i).aG+n) }) rfl id
theorem FV(base sb k:Nat)(S:RS)(m:SM)(x:aP)(t:Tg)(w:World)(h:bH w base sb S m)(hl:S.t.length≤1000000000)(hto:S.told.length<1000000000)(hlen:S.l.length≤1000)(ib is:Nat)(hib:fK S.l t.t.jh=some ib)(his:fK S.l t.t.sell=some is)(hx:x.kind=98)(hk:x.a-1=(k:Int))(ht:S.t[k]?=some t)(hp:ja t S.day=0) :
 Calls Tryz.prog 171 #[.pointer (some ⟨sb,0,none⟩),x.val] w fun e w'=>e=.returned (.int .i64 0)∧fP base sb (S.KD k t ib is x.again) m w w':=by
 have HH:Hid (∀W,ag ak w W→Calls Tryz.prog 204 #[.pointer (some ⟨sb,0,none⟩),.int .i64 x.a] W fun e w'=>e=.returned (.int .i64 0)∧ag ak W w'):=fun W kW=>by
  have:=ku base sb k S m x.a t W (h.aj kW) hl hk ht
  rw[hp]at this
  exact this
 obtain⟨ta,tc,hv⟩:=az h.dE
 obtain⟨g,rfl,_,lg,EK,hc,hf⟩:=h.RD hv ht
 have hkl:=(List.getElem?_eq_some_iff.1 ht).1
 have HS:=hide h
 have HT:=hide ht
 have HV:=hide hv
 obtain⟨N,hN⟩:∃N,S.t.length=N:=⟨_,rfl⟩
 rw[hN]at hv hkl hl
 have hgb:w.heap.size≠g:=by omega
 have hgs:sb≠g:=fun e=>by obtain⟨cs,hcs⟩:=EK;exact ai.ne h.blk hcs (by decide) e
 obtain⟨kind,s,⟨id,owner,sym,side,ax,price,qty⟩,a,b,c,again⟩:=x
 simp only at hx hk
 subst hx
 simp only[aP.val,aP.cells]at HH ⊢
 obtain rfl:a=(k:Int)+1:=by omega
 obtain⟨W1,hW1⟩:∃W1,W1=w.alloc (.cells #[.int .u8 98,.string s,.int .i64 id,.int .i64 owner,.string sym,.int .i64 side,.int .i64 ax,.int .i64 price,.int .i64 qty,.int .i64 ((k:Int)+1),.int .i64 b,.int .i64 c,.bool again] 169):=⟨_,rfl⟩
 have k1:ag ak w W1:=by rw[hW1];exact (ag.refl ak w).alloc _
 have b1:ai W1 w.heap.size #[.int .u8 98,.string s,.int .i64 id,.int .i64 owner,.string sym,.int .i64 side,.int .i64 ax,.int .i64 price,.int .i64 qty,.int .i64 ((k:Int)+1),.int .i64 b,.int .i64 c,.bool again] 169:=by rw[hW1];exact ai.new _ _ _
 have HC:=hide (ae HH W1 k1)
 have HB1:=hide b1
 have kV:=hide k1
 have HW1:=hide hW1
 have ZR:=hide hv
 clear h hc hf ht hp HH hk hv hN b1 k1 hW1 EK
 go_enter Tryz.func171,Tryz.ntmps171
 go_wp2_with fail
 rw[←ae HW1]
 refine (ae HC).mono ?_
 rintro e w2 ⟨rfl,k2⟩
 have kk:=(ae kV).trans k2
 have h2:=(ae HS).aj kk
 have v2:w2.cell? ⟨sb,2,none⟩=some (.slice (some ⟨g,0,none⟩) N tc):=by rw[←ae ZR];exact h2.blk.cell 2
 have b2:=k2.blk (ae HB1) (fun z=>z)
 have x0:w2.cell? ⟨w.heap.size,0,none⟩=some (.int .u8 98):=b2.cell 0
 have x9:w2.cell? ⟨w.heap.size,9,none⟩=some (.int .i64 ((k:Int)+1)):=b2.cell 9
 have x10:w2.cell? ⟨w.heap.size,10,none⟩=some (.int .i64 b):=b2.cell 10
 have lb:=b2.lt
 have Q8:=h2.blk.lt
 obtain⟨g',e',_,Q5,_,hc,hf⟩:=h2.RD (ae HV) (ae HT)
 obtain rfl:g=g':=by simpa using e'
 have c0:w2.cell? ⟨g,k * 8,none⟩=some (.int .i64 t.t.num):=hc 0 _ rfl
 have c1:w2.cell? ⟨g,k * 8+1,none⟩=some (.string t.t.sym):=hc 1 _ rfl
 have c2:w2.cell? ⟨g,k * 8+2,none⟩=some (.int .i64 t.t.price):=hc 2 _ rfl
 have c3:w2.cell? ⟨g,k * 8+3,none⟩=some (.int .i64 t.t.qty):=hc 3 _ rfl
 have c4:w2.cell? ⟨g,k * 8+4,none⟩=some (.int .i64 t.t.jh):=hc 4 _ rfl
 have c5:w2.cell? ⟨g,k * 8+5,none⟩=some (.int .i64 t.t.sell):=hc 5 _ rfl
 have c6:w2.cell? ⟨g,k * 8+6,none⟩=some (.int .i64 t.t.day):=hc 6 _ rfl
 have c7:w2.cell? ⟨g,k * 8+7,none⟩=some (.bool t.holds):=hc 7 _ rfl
 have f7:=hf (k * 8+7)
 have aan:=(gV hib).1
 have aaN:=(gV his).1
 have QW:∀{S1:RS} {m1:SM} {W W':World},bH W base sb S1 m1→ag (SF sb m1) W W'→ai W w.heap.size #[.int .u8 98,.string s,.int .i64 id,.int .i64 owner,.string sym,.int .i64 side,.int .i64 ax,.int .i64 price,.int .i64 qty,.int .i64 ((k:Int)+1),.int .i64 b,.int .i64 c,.bool again] 169→ai W' w.heap.size #[.int .u8 98,.string s,.int .i64 id,.int .i64 owner,.string sym,.int .i64 side,.int .i64 ax,.int .i64 price,.int .i64 qty,.int .i64 ((k:Int)+1),.int .i64 b,.int .i64 c,.bool again] 169:=fun hs kc hb=>kc.blk hb (hs.ne hb (by decide))
 have Jq:Hid (∀q,Calls Tryz.prog 205 #[.pointer (some ⟨sb,0,none⟩),.int .i64 2,.agg #[.int .i64 t.t.num,.string t.t.sym,.int .i64 t.t.price,.int .i64 t.t.qty,.int .i64 t.t.jh,.int .i64 t.t.sell,.int .i64 t.t.day]] ((w2.drewN q).setCell ⟨g,k * 8+7,none⟩ (.bool false)) fun e w'=>e=.returned (.tuple #[])∧TK base sb (S.kK k t) m w w'∧ai w' w.heap.size #[.int .u8 98,.string s,.int .i64 id,.int .i64 owner,.string sym,.int .i64 side,.int .i64 ax,.int .i64 price,.int .i64 qty,.int .i64 ((k:Int)+1),.int .i64 b,.int .i64 c,.bool again] 169):=fun q=>by
  have hq:=h2.aj ((ag.refl ak w2).drewN q)
  obtain⟨p3,q3⟩:=hq.Tj (ae HV) (ae HT) (j:=7) (by omega) (.bool false) ⟨t.t,false⟩ rfl
  have hlt:(S.L6 k ⟨t.t,false⟩).told.length<1000000000:=hto
  have bq:=QW hq q3 (((ag.refl ak w2).drewN q).blk b2 (fun z=>z))
  refine (yP base sb _ m 2 t.t _ p3 hlt).mono ?_
  rintro e w' ⟨rfl,ov,a1,a2,a3⟩
  exact⟨rfl,⟨ov,a1,fun b hb=>(a2 b hb).imp_right (fun z=>Nat.le_trans (Nat.le_trans kk.size q3.size) z),kk.aC.trans (((ag.refl (SF sb m) w2).drewN q).trans (q3.trans a3))⟩,QW p3 a3 bq⟩
 have hTb:(S.kK k t).t=S.t.set k ⟨t.t,false⟩:=rfl
 have hLb:(S.kK k t).l=S.l:=rfl
 have HKB:Hid (∀{S1:RS} {m1:SM} {W W':World},bH W base sb S1 m1→ag (SF sb m1) W W'→ai W w.heap.size #[.int .u8 98,.string s,.int .i64 id,.int .i64 owner,.string sym,.int .i64 side,.int .i64 ax,.int .i64 price,.int .i64 qty,.int .i64 ((k:Int)+1),.int .i64 b,.int .i64 c,.bool again] 169→ai W' w.heap.size #[.int .u8 98,.string s,.int .i64 id,.int .i64 owner,.string sym,.int .i64 side,.int .i64 ax,.int .i64 price,.int .i64 qty,.int .i64 ((k:Int)+1),.int .i64 b,.int .i64 c,.bool again] 169):=QW
 have Vd:=hide (And.intro hib his)
 clear kk k2 b2 HC HB1 kV HW1 h2 hc hf e' QW hib his
 go_wp2
 go_quiet (fail)
 go_wp2_with fail
 refine (ae Jq _).mono ?_
 rintro e w4 ⟨rfl,⟨ov,p4,q4,r4⟩,b4⟩
 have hv4:({ m with ov:=ov }:SM).tv=.slice (some ⟨g,0,none⟩) (S.kK k t).t.length tc:=by rw[hTb,List.length_set];exact ae HV
 have ht4:(S.kK k t).t[k]?=some ⟨t.t,false⟩:=by rw[hTb,List.getElem?_set_self (by have:=(List.getElem?_eq_some_iff.1 (ae HT)).1;exact this)]
 obtain⟨g',e',_,lg4,_,hc4,_⟩:=p4.RD hv4 ht4
 obtain rfl:g=g':=by simpa using e'
 have d3:w4.cell? ⟨g,k * 8+3,none⟩=some (.int .i64 t.t.qty):=hc4 3 _ rfl
 have d4:w4.cell? ⟨g,k * 8+4,none⟩=some (.int .i64 t.t.jh):=hc4 4 _ rfl
 have x12:w4.cell? ⟨w.heap.size,12,none⟩=some (.bool again):=b4.cell 12
 have ls4:=p4.blk.lt
 have lb4:=b4.lt
 have HU1:Hid (∀W,ag ak w4 W→Calls Tryz.prog 206 #[.pointer (some ⟨sb,0,none⟩),.int .i64 t.t.jh,.int .i64 t.t.qty,.bool again] W fun e w'=>e=.returned (.tuple #[])∧bH w' base sb ((S.kK k t).bf ib t.t.qty again) { m with ov:=ov }∧ag (SF sb { m with ov:=ov }) w4 w'):=fun W kW=>by
  refine (Bc base sb ib (S.kK k t) { m with ov:=ov } t.t.jh t.t.qty again W (p4.aj kW) (by rw[hLb];exact hlen) (by rw[hLb];exact (ae Vd).1)).mono ?_
  rintro e w' ⟨rfl,z1,z2⟩
  exact⟨rfl,z1,kW.aC.trans z2⟩
 have HP4:=hide p4
 have Vg:=hide q4
 have HR4:=hide r4
 have HB4:=hide b4
 clear Jq c0 c1 c2 c3 c4 c5 c6 c7 f7 v2 x0 x9 x10 lb Q8 Q5 p4 q4 r4 b4 hc4 e'
 go_upto_region 8 with fail
 go_cut [] from 35 (fun wc=>bH wc base sb ((S.kK k t).bf ib t.t.qty again) { m with ov:=ov }∧ag (SF sb { m with ov:=ov }) w4 wc)
 case first JJ KK hJ hK =>
  go_region_with (go_at_call 206;refine (ae HU1 _ ?kw).mono ?_;(case kw=>repeat (first | exact ag.refl _ _ | refine ag.drew ?_));rintro e w5 ⟨rfl,p5,q5⟩;have HP5:=hide p5;have Vh:=hide q5;clear p5 q5)
  all_goals
   refine hK _ _ (Met.intro (hJ _ _ ?_))
   repeat apply Exists.intro
   refine⟨?rel,rfl⟩
   case rel=>first | exact⟨ae HP5,ae Vh⟩ | exact⟨(ae HP5).aj (ag.refl ak _).drew,(ae Vh).drew⟩
 case rest =>
  obtain⟨p5,q5⟩:=hcut
  have hT5:((S.kK k t).bf ib t.t.qty again).t=(S.kK k t).t:=by unfold RS.bf;split <;> rfl
  have hv5:({ m with ov:=ov }:SM).tv=.slice (some ⟨g,0,none⟩) ((S.kK k t).bf ib t.t.qty again).t.length tc:=by rw[hT5];exact hv4
  obtain⟨g',e',_,lg5,_,hc5,_⟩:=p5.RD hv5 (by rw[hT5];exact ht4)
  obtain rfl:g=g':=by simpa using e'
  have y3:wc.cell? ⟨g,k * 8+3,none⟩=some (.int .i64 t.t.qty):=hc5 3 _ rfl
  have y5:wc.cell? ⟨g,k * 8+5,none⟩=some (.int .i64 t.t.sell):=hc5 5 _ rfl
  have b5:=ae HKB (ae HP4) q5 (ae HB4)
  have Zw:wc.cell? ⟨w.heap.size,12,none⟩=some (.bool again):=b5.cell 12
  have ls5:=p5.blk.lt
  have lb5:=b5.lt
  obtain⟨hx5,hl5⟩:=RS.vV (S.kK k t) (i:=ib) (by rw[hLb];exact aan) t.t.qty again t.t.sell
  have HU2:Hid (∀W,ag ak wc W→Calls Tryz.prog 206 #[.pointer (some ⟨sb,0,none⟩),.int .i64 t.t.sell,.int .i64 t.t.qty,.bool again] W fun e w'=>e=.returned (.tuple #[])∧bH w' base sb (S.KD k t ib is again) { m with ov:=ov }∧ag (SF sb { m with ov:=ov }) wc w'):=fun W kW=>by
   refine (Bc base sb is ((S.kK k t).bf ib t.t.qty again) { m with ov:=ov } t.t.sell t.t.qty again W (p5.aj kW) (by rw[hl5,hLb];exact hlen) (by rw[hx5,hLb];exact (ae Vd).2)).mono ?_
   rintro e w' ⟨rfl,z1,z2⟩
   exact⟨rfl,z1,kW.aC.trans z2⟩
  have Vh:=hide q5
  clear HU1 d3 d4 x12 ls4 lb4 lg4 p5 q5 hc5 e' b5 hx5 hl5 hT5 hv5 hv4 ht4 hTb hLb
  go_upto_region 9 with fail
  go_cut [] from 49 (fun wd=>bH wd base sb (S.KD k t ib is again) { m with ov:=ov }∧ag (SF sb { m with ov:=ov }) wc wd)
  case first JJ KK hJ hK =>
   go_region_with (go_at_call 206;refine (ae HU2 _ ?kw).mono ?_;(case kw=>repeat (first | exact ag.refl _ _ | refine ag.drew ?_));rintro e w6 ⟨rfl,p6,q6⟩;have TD:=hide p6;have P8:=hide q6;clear p6 q6)
   all_goals
    refine hK _ _ (Met.intro (hJ _ _ ?_))
    repeat apply Exists.intro
    refine⟨?rel,rfl⟩
    case rel=>first | exact⟨ae TD,ae P8⟩ | exact⟨(ae TD).aj (ag.refl ak _).drew,(ae P8).drew⟩
  case rest =>
   obtain⟨p6,q6⟩:=hcut
   have hfin:fP base sb (S.KD k t ib is again) m w wc:=by
    have ho:TK base sb (S.KD k t ib is again) m w wc:=⟨ov,p6,ae Vg,(ae HR4).from (((ae Vh).trans q6).mono (fun b hb=>?_))⟩
    ·exact ho.stN
    ·rcases hb with rfl | hb | hb | hb | hb
     ·exact .inl (.inl rfl)
     ·exact .inl (.inr (.inl hb))
     ·exact .inl (.inr (.inr (.inl hb)))
     ·exact .inl (.inr (.inr (.inr (.inl hb))))
     ·exact (ae Vg b hb).imp_left (fun z=>.inr (.inr (.inr (.inr z))))
   have HF:=hide hfin
   clear hfin p6 q6 HU2
   go_wp2
   go_ret
   exact⟨rfl,ae HF⟩
def nZ(o:Ord):Ord:=if o.kind=1 then { o with exp:=wrap64 (o.exp+o.opn),opn:=0 } else o
def jQ(l:List Ord)(i:Nat):List Ord:=(l.take i).map nZ++l.drop i
theorem NU(l:List Ord){i:Nat}(h:i≤l.length):(jQ l i).length=l.length:=by
 unfold jQ
 rw[List.length_append,List.length_map,List.length_take,List.length_drop]
 omega
theorem QI(l:List Ord){i:Nat}(h:i<l.length):ah (jQ l i) i=ah l i:=by
 apply tN
 unfold jQ
 rw[List.getElem?_append_right (by simp;omega)]
 simp only[List.length_map,List.length_take]
 rw[List.getElem?_drop,←jr h]
 congr 1
 omega
theorem NV(l:List Ord){i:Nat}(h:i<l.length):(jQ l i).set i (nZ (ah l i))=jQ l (i+1):=by
 unfold jQ
 have h1:((l.take i).map nZ).length=i:=by simp;omega
 have h2:l.drop i=ah l i :: l.drop (i+1):=by
  rw[List.drop_eq_getElem_cons h]
  congr 1
  have:=jr h
  rw[List.getElem?_eq_getElem h]at this
  exact Option.some.inj this
 have h3:l.take (i+1)=l.take i++[ah l i]:=by
  rw[List.take_add_one,jr h]
  rfl
 rw[List.set_append_right _ _ (by omega),h1,Nat.sub_self,h2,List.set_cons_zero,h3,List.map_append]
 simp
theorem NT(l:List Ord):jQ l l.length=l.map nZ:=by unfold jQ;simp
def RS.closes(S:RS):RS:={ S with l:=S.l.map nZ,told:=S.told++[⟨0,4,⟨0,⟨#[]⟩,0,0,0,0,S.day⟩⟩],day:=wrap64 (S.day+1) }
theorem IW(base sb:Nat)(S:RS)(m:SM)(w:World)(h:bH w base sb S m)(hlen:S.l.length≤1000)(hto:S.told.length<1000000000) :
 Calls Tryz.prog 172 #[.pointer (some ⟨sb,0,none⟩)] w fun e w'=>e=.returned (.tuple #[])∧fP base sb S.closes m w w':=by
 obtain⟨a,c,hv⟩:=az h.bI
 obtain⟨N,hN⟩:∃N,S.l.length=N:=⟨_,rfl⟩
 rw[hN]at hv
 have HS:=hide h
 have HN:=hide hN
 have HV:=hide hv
 have hl0:jQ S.l 0=S.l:=by simp[jQ]
 have HST:Hid (bH w base sb { S with l:=jQ S.l 0 } m):=by show bH w base sb { S with l:=jQ S.l 0 } m;rw[hl0];exact h
 have QM:N≤1000:=by omega
 clear h hv hl0 hN hlen
 go_enter Tryz.func172,Tryz.ntmps172
 go_wp2
 go_loopg [2] N (fun k iv wr=>∃i:Nat,iv=.int .i64 (i:Int)∧i≤N∧k=N-i∧bH wr base sb { S with l:=jQ S.l i } m∧ag (SF sb m) w wr)
 case atStart=>exact⟨0,rfl,Nat.zero_le _,rfl,ae HST,ag.refl _ _⟩
 case round =>
  obtain⟨i,rfl,hi,hgk,hst,hch⟩:=hrel
  have hlv:(jQ S.l i).length=N:=by rw[NU S.l (by have:=ae HN;omega)];exact ae HN
  have v1:wr.cell? ⟨sb,1,none⟩=some (.slice a N c):=by rw[←ae HV];exact hst.blk.cell 1
  have uj:=hst.blk.lt
  by_cases hlt:i<N
  ·have Y6:i<S.l.length:=by rw[ae HN];exact hlt
   have hva:m.lv=.slice a ({ S with l:=jQ S.l i }:RS).l.length c:=by show m.lv=.slice a (jQ S.l i).length c;rw[hlv];exact ae HV
   obtain⟨g,rfl,_,hcl,hf⟩:=hst.rY hva (i:=i) (by show i<(jQ S.l i).length;rw[hlv];exact hlt)
   obtain⟨o,ho⟩:∃o,ah S.l i=o:=⟨_,rfl⟩
   have hno:ah (jQ S.l i) i=o:=by rw[QI S.l Y6,ho]
   simp only[hno]at hcl
   have c4:wr.cell? ⟨g,i * 13+4,none⟩=some (.int .i64 o.kind):=hcl 4 _ rfl
   have c8:wr.cell? ⟨g,i * 13+8,none⟩=some (.int .i64 o.opn):=hcl 8 _ rfl
   have c11:wr.cell? ⟨g,i * 13+11,none⟩=some (.int .i64 o.exp):=hcl 11 _ rfl
   have f8:=hf (i * 13+8)
   have f11:=hf (i * 13+11)
   have n1:¬i * 13+8=i * 13+11:=by omega
   have hsg:sb≠g:=fun e=>by
    have r:=hst.bI
    rw[hva]at r
    obtain⟨cs,hcs⟩:=ay r (b:=g) rfl
    exact ai.ne hst.blk hcs (by decide) e
   have hset:=NV S.l Y6
   rw[ho]at hset
   have Wp:=hide hset
   have Ws:=hide hst
   have MI:=hide hch
   have HVA:=hide hva
   have YV:=hide hno
   have zU:=hide hlv
   clear hst hch hcl hf hset hva Y6 ho hno hlv
   by_cases hk1:o.kind=1
   ·have hfin:bH ((wr.setCell ⟨g,i * 13+11,none⟩ (.int .i64 (wrap64 (o.exp+o.opn)))).setCell ⟨g,i * 13+8,none⟩ (.int .i64 0)) base sb { S with l:=jQ S.l (i+1) } m∧ag (SF sb m) w ((wr.setCell ⟨g,i * 13+11,none⟩ (.int .i64 (wrap64 (o.exp+o.opn)))).setCell ⟨g,i * 13+8,none⟩ (.int .i64 0)):=by
     have hiL:i<(jQ S.l i).length:=by rw[ae zU];exact hlt
     obtain⟨p1,q1⟩:=(ae Ws).fM (ae HVA) hiL (j:=11) (by omega) (.int .i64 (wrap64 (o.exp+o.opn))) { o with exp:=wrap64 (o.exp+o.opn) } (by show _=(qJ (ah (jQ S.l i) i)).set 11 _;rw[ae YV];rfl)
     obtain⟨p2,q2⟩:=p1.fM (i:=i) (by simp only[List.length_set];exact ae HVA) (by simp only[List.length_set];exact hiL) (j:=8) (by omega) (.int .i64 0) { o with exp:=wrap64 (o.exp+o.opn),opn:=0 } (by simp only;rw[bG hiL];rfl)
     simp only[List.set_set]at p2
     have e1:nZ o={ o with exp:=wrap64 (o.exp+o.opn),opn:=0 }:=by unfold nZ;rw[if_pos hk1]
     have hs:=ae Wp
     rw[e1]at hs
     rw[hs]at p2
     exact⟨p2,(ae MI).trans (q1.trans q2)⟩
    have HF:=hide hfin
    rw[hk1]at c4
    clear hfin
    go_wp2
    go_region
    go_wp2
    go_roundg (N-(i+1))
    case measure=>omega
    case rel=>exact⟨i+1,by push_cast;rfl,by omega,rfl,(ae HF).1.aj (ag.refl ak _).drew,(ae HF).2.drew⟩
   ·have e1:nZ o=o:=by unfold nZ;rw[if_neg hk1]
    have hfin:bH wr base sb { S with l:=jQ S.l (i+1) } m:=by
     have hs:=ae Wp
     rw[e1]at hs
     have:(jQ S.l i).set i o=jQ S.l i:=by
      have hn:=ae YV
      have hiL:i<(jQ S.l i).length:=by rw[ae zU];exact hlt
      have h3:=jr hiL
      rw[hn]at h3
      obtain⟨h4,h5⟩:=List.getElem?_eq_some_iff.1 h3
      rw[←h5];exact List.set_getElem_self h4
     rw[←hs,this]
     exact ae Ws
    have HF:=hide hfin
    have hk2:(o.kind == 1)=false:=by simpa using hk1
    clear hfin
    go_wp2
    go_roundg (N-(i+1))
    case measure=>omega
    case rel=>exact⟨i+1,by push_cast;rfl,by omega,rfl,ae HF,ae MI⟩
  ·obtain rfl:i=N:=by omega
   have hall:jQ S.l i=S.l.map nZ:=by rw[←ae HN];exact NT S.l
   rw[hall]at hst
   have v3:wr.cell? ⟨sb,3,none⟩=some (.int .i64 S.day):=hst.blk.cell 3
   have HT:=hide (yP base sb { S with l:=S.l.map nZ } m 4 ⟨0,⟨#[]⟩,0,0,0,0,S.day⟩ wr hst hto)
   simp only[Tr.val]at HT
   have MI:=hide hch
   clear hst hch hall hlv
   go_wp2_with fail
   refine (ae HT).mono ?_
   rintro e w2 ⟨rfl,ov,p2,q2,r2⟩
   have v3:w2.cell? ⟨sb,3,none⟩=some (.int .i64 S.day):=p2.blk.cell 3
   have f3:=p2.blk.frozen 3
   have Q8:=p2.blk.lt
   obtain⟨p3,q3⟩:=p2.I9 (wrap64 (S.day+1))
   have hfin:TK base sb S.closes m w (w2.setCell ⟨sb,3,none⟩ (.int .i64 (wrap64 (S.day+1)))):=by
    refine⟨ov,p3,fun b hb=>(q2 b hb).imp_right (fun z=>Nat.le_trans (ae MI).size z),((ae MI).trans r2).from (q3.mono (fun b hb=>?_))⟩
    rcases hb with rfl | hb | hb | hb | hb
    ·exact .inl (.inl rfl)
    ·exact .inl (.inr (.inl hb))
    ·exact .inl (.inr (.inr (.inl hb)))
    ·exact .inl (.inr (.inr (.inr (.inl hb))))
    ·rcases q2 b hb with z | z
     ·exact .inl (.inr (.inr (.inr (.inr z))))
     ·exact .inr (Nat.le_trans (ae MI).size z)
   have HF:=hide hfin.stN
   clear hfin p2 q2 r2 p3 q3 HT v1
   go_wp2
   go_end0
   exact⟨rfl,ae HF⟩
end Go.Proofs.YtigaphnafnpfnaaGreatDoor
