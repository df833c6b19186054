import Derived.Test.YtigaphnafnpfnaaGreatDoorQVY3
set_option linter.unusedVariables false
set_option linter.unusedSimpArgs false
set_option maxHeartbeats 8000000
set_option maxRecDepth 100000
namespace Go.Proofs.YtigaphnafnpfnaaGreatDoor
open Go.RowKit
attribute [local go_sem ↓] Go.wp_at_zero Go.wp_at_succ
def RS.og(S:RS)(k:Nat)(x:Tg):RS:=(S.OT k ⟨x.t,false⟩).Jg 2 x.t
def RS.NQ(S:RS)(k:Nat)(x:Tg)(ib is:Nat)(again:Bool):RS:=((S.og k x).bZ ib x.t.az again).bZ is x.t.az again
theorem Iq{l:List Ord}{i:Nat}{y:Ord}(c:i<l.length)(b:y.id=(ak l i).id)(id:Int):iU (l.set i y) id=iU l id:=by
 unfold iU
 induction l generalizing i with
 | nil=>simp at c
 | cons a l ih =>
   cases i with
   | zero =>
     have:(ak (a :: l) 0).id=a.id:=rfl;rw[this]at b;simp only[List.set_cons_zero,List.findIdx?_cons,b]
   | succ i =>
     have d:i<l.length:=by simpa using c
     have:=ih d (by rw[b];rfl);simp only[List.set_cons_succ,List.findIdx?_cons,this]
theorem RS.yP(S:RS){i:Nat}(a:i<S.l.length)(n:Int)(again:Bool)(id:Int):iU (S.bZ i n again).l id=iU S.l id/\(S.bZ i n again).l.length=S.l.length:=by
 unfold RS.bZ;split
 ·unfold RS.kC RS.kN RS.dN;simp only[List.set_set,List.length_set,and_true];exact Iq a (by rw[dB a];rfl) id
 ·unfold RS.dN;simp only[List.length_set,and_true];exact Iq a (y:={ qU (ak S.l i) n with aX:=wrap64 ((ak S.l i).aX+n) }) rfl id
theorem IB(base d k:Nat)(S:RS)(m:SM)(x:bD)(t:Tg)(w:World)(h:dF w base d S m)(hl:S.t.length<=1000000000)(hto:S.told.length<1000000000)(hlen:S.l.length<=1000)(o u:Nat)(hib:iU S.l t.t.lF=some o)(his:iU S.l t.t.dZ=some u)(hx:x.kind=98)(hk:x.a-1=(k:Int))(H:S.t[k]?=some t)(hp:kZ t S.day=0) :
 CT 171 #[PP d,x.val] w fun e w'=>e=.returned (II 0)/\iZ base d (S.NQ k t o u x.again) m w w':=by
 have U:Hid (∀f,aj aA w f->CT 204 #[PP d,II x.a] f fun e w'=>e=.returned (II 0)/\aj aA f w'):=fun f kW=>by
  have:=nK base d k S m x.a t f (h.ax kW) hl hk H;rw[hp]at this;exact this
 obtain⟨ta,tc,I⟩:=aJ h.dJ;obtain⟨g,rfl,_,lg,VK,p,Q⟩:=h.Vg I H;have hkl:=(List.getElem?_eq_some_iff.1 H).1;obtain⟨HS,V,W⟩:=fK h H I;obtain⟨N,hN⟩:=dQ S.t.length;rw[hN]at I hkl hl;have hgb:w.heap.size≠g:=by omega
 have hgs:d≠g:=fun e=>by obtain⟨cs,hcs⟩:=VK;exact au.ne h.ay hcs (by decide) e
 obtain⟨kind,s,⟨id,y,sym,side,v,af,az⟩,a,b,c,again⟩:=x;simp only at hx hk;subst hx;simp only[bD.val,bD.cells]at U ⊢;obtain rfl:a=(k:Int)+1:=by omega
 obtain⟨Y,P⟩:=gy (w.alloc (.cells #[.int .u8 98,.string s,II id,II y,.string sym,II side,II v,II af,II az,II ((k:Int)+1),II b,II c,.bool again] 169));have k1:aj aA w Y:=by rw[P];exact (aj.refl aA w).alloc _
 have b1:au Y w.heap.size #[.int .u8 98,.string s,II id,II y,.string sym,II side,II v,II af,II az,II ((k:Int)+1),II b,II c,.bool again] 169:=by rw[P];exact au.new _ _ _
 obtain⟨HC,HB1,Eb,HW1,HHV⟩:=mi (ae U Y k1) b1 k1 P I;clear h p Q H hp U hk I hN b1 k1 P VK;go_enter Tryz.func171,Tryz.ntmps171;go_wp2_with fail;rw[<-ae HW1];refine (ae HC).mono ?_;rintro e w2 ⟨rfl,k2⟩;have T:=(ae Eb).trans k2;have G:=(ae HS).ax T;have v2:w2.cell? ⟨d,2,none⟩=some (.slice (some ⟨g,0,none⟩) N tc):=by rw[<-ae HHV];exact G.ay.cell 2
 have A:=k2.ay (ae HB1) idd;have x0:CC w2 w.heap.size 0 (.int .u8 98):=A.cell 0;have x9:CC w2 w.heap.size 9 (II ((k:Int)+1)):=A.cell 9;have x10:CC w2 w.heap.size 10 (II b):=A.cell 10;have lb:=A.lt;have VV:=G.ay.lt;obtain⟨F,r,_,YE,_,p,Q⟩:=G.Vg (ae W) (ae V);obtain rfl:g=F:=by simpa using r
 have c0:CC w2 g (k * 8) (II t.t.num):=p 0 _ rfl;have c1:CC w2 g (k * 8+1) (.string t.t.sym):=p 1 _ rfl;have c2:CC w2 g (k * 8+2) (II t.t.af):=p 2 _ rfl;have c3:CC w2 g (k * 8+3) (II t.t.az):=p 3 _ rfl;have c4:CC w2 g (k * 8+4) (II t.t.lF):=p 4 _ rfl;have c5:CC w2 g (k * 8+5) (II t.t.dZ):=p 5 _ rfl;have c6:CC w2 g (k * 8+6) (II t.t.day):=p 6 _ rfl;have c7:CC w2 g (k * 8+7) (.bool t.holds):=p 7 _ rfl;have f7:=Q (k * 8+7);have abI:=(jC hib).1;have acv:=(jC his).1;have R:∀{X:RS} {m1:SM} {f E:World},dF f base d X m1->aj (SF d m1) f E->au f w.heap.size #[.int .u8 98,.string s,II id,II y,.string sym,II side,II v,II af,II az,II ((k:Int)+1),II b,II c,.bool again] 169->au E w.heap.size #[.int .u8 98,.string s,II id,II y,.string sym,II side,II v,II af,II az,II ((k:Int)+1),II b,II c,.bool again] 169:=fun hs kc n=>kc.ay n (hs.ne n (by decide))
 have HTL:Hid (∀q,CT 205 #[PP d,II 2,.agg #[II t.t.num,.string t.t.sym,II t.t.af,II t.t.az,II t.t.lF,II t.t.dZ,II t.t.day]] ((w2.drewN q).setCell ⟨g,k * 8+7,none⟩ (.bool false)) fun e w'=>e=.returned (.tuple #[])/\TK base d (S.og k t) m w w'/\au w' w.heap.size #[.int .u8 98,.string s,II id,II y,.string sym,II side,II v,II af,II az,II ((k:Int)+1),II b,II c,.bool again] 169):=fun q=>by
  have hq:=G.ax ((aj.refl aA w2).drewN q);obtain⟨p3,q3⟩:=hq.Wi (ae W) (ae V) (j:=7) (by omega) (.bool false) ⟨t.t,false⟩ rfl;have hlt:(S.OT k ⟨t.t,false⟩).told.length<1000000000:=hto;have bq:=R hq q3 (((aj.refl aA w2).drewN q).ay A idd);refine (xe base d _ m 2 t.t _ p3 hlt).mono ?_;rintro e w' ⟨rfl,ov,a1,a2,a3⟩;exact⟨rfl,⟨ov,a1,fun b n=>(a2 b n).imp_right (fun z=>Nat.le_trans (Nat.le_trans T.size q3.size) z),T.aP.trans (((aj.refl (SF d m) w2).drewN q).trans (q3.trans a3))⟩,R p3 a3 bq⟩
 have hTb:(S.og k t).t=S.t.set k ⟨t.t,false⟩:=rfl;have B:(S.og k t).l=S.l:=rfl;have HKB:Hid (∀{X:RS} {m1:SM} {f E:World},dF f base d X m1->aj (SF d m1) f E->au f w.heap.size #[.int .u8 98,.string s,II id,II y,.string sym,II side,II v,II af,II az,II ((k:Int)+1),II b,II c,.bool again] 169->au E w.heap.size #[.int .u8 98,.string s,II id,II y,.string sym,II side,II v,II af,II az,II ((k:Int)+1),II b,II c,.bool again] 169):=R;have HID:=ai (And.intro hib his);clear T k2 A HC HB1 Eb HW1 G p Q r R hib his;go_wp2;go_quiet (fail);go_wp2_with fail;refine (ae HTL _).mono ?_;rintro e D ⟨rfl,⟨ov,J,q4,r4⟩,O⟩;have hv4:({ m with ov:=ov }:SM).tv=.slice (some ⟨g,0,none⟩) (S.og k t).t.length tc:=by rw[hTb,List.length_set];exact ae W
 have ht4:(S.og k t).t[k]?=some ⟨t.t,false⟩:=by rw[hTb,List.getElem?_set_self (by have:=(List.getElem?_eq_some_iff.1 (ae V)).1;exact this)]
 obtain⟨F,r,_,lg4,_,hc4,_⟩:=J.Vg hv4 ht4;obtain rfl:g=F:=by simpa using r
 have d3:CC D g (k * 8+3) (II t.t.az):=hc4 3 _ rfl;have d4:CC D g (k * 8+4) (II t.t.lF):=hc4 4 _ rfl;have x12:CC D w.heap.size 12 (.bool again):=O.cell 12;have ls4:=J.ay.lt;have lb4:=O.lt;have HU1:Hid (∀f,aj aA D f->CT 206 #[PP d,II t.t.lF,II t.t.az,.bool again] f fun e w'=>e=.returned (.tuple #[])/\dF w' base d ((S.og k t).bZ o t.t.az again) { m with ov:=ov }/\aj (SF d { m with ov:=ov }) D w'):=fun f kW=>by
  refine (DK base d o (S.og k t) { m with ov:=ov } t.t.lF t.t.az again f (J.ax kW) (by rw[B];exact hlen) (by rw[B];exact (ae HID).1)).mono ?_;rintro e w' ⟨rfl,z1,z2⟩;exact⟨rfl,z1,kW.aP.trans z2⟩
 obtain⟨HP4,Yu,HR4,HB4⟩:=gY J q4 r4 O;clear HTL c0 c1 c2 c3 c4 c5 c6 c7 f7 v2 x0 x9 x10 lb VV YE J q4 r4 O hc4 r;go_upto_region 8 with fail;go_cut [] from 35 (fun wc=>dF wc base d ((S.og k t).bZ o t.t.az again) { m with ov:=ov }/\aj (SF d { m with ov:=ov }) D wc)
 case first JJ KK hJ hK =>
  go_region_with (go_at_call 206;refine (ae HU1 _ ?kw).mono ?_;(case kw=>repeat (first | exact aj.refl _ _ | refine aj.drew ?_));rintro e w5 ⟨rfl,p5,C⟩;have HP5:=ai p5;have M:=ai C;clear p5 C)
  all_goals
   refine hK _ _ (Met.intro (hJ _ _ ?_))
   repeat apply Exists.intro
   refine⟨?rel,rfl⟩
   case rel=>first | exact⟨ae HP5,ae M⟩ | exact⟨(ae HP5).ax (aj.refl aA _).drew,(ae M).drew⟩
 case rest =>
  obtain⟨p5,C⟩:=hcut;have hT5:((S.og k t).bZ o t.t.az again).t=(S.og k t).t:=by unfold RS.bZ;split <;> rfl
  have hv5:({ m with ov:=ov }:SM).tv=.slice (some ⟨g,0,none⟩) ((S.og k t).bZ o t.t.az again).t.length tc:=by rw[hT5];exact hv4
  obtain⟨F,r,_,lg5,_,hc5,_⟩:=p5.Vg hv5 (by rw[hT5];exact ht4);obtain rfl:g=F:=by simpa using r
  have y3:CC wc g (k * 8+3) (II t.t.az):=hc5 3 _ rfl;have y5:CC wc g (k * 8+5) (II t.t.dZ):=hc5 5 _ rfl;have Z:=ae HKB (ae HP4) C (ae HB4);have y12:CC wc w.heap.size 12 (.bool again):=Z.cell 12;have ls5:=p5.ay.lt;have lb5:=Z.lt;obtain⟨hx5,hl5⟩:=RS.yP (S.og k t) (i:=o) (by rw[B];exact abI) t.t.az again t.t.dZ;have HU2:Hid (∀f,aj aA wc f->CT 206 #[PP d,II t.t.dZ,II t.t.az,.bool again] f fun e w'=>e=.returned (.tuple #[])/\dF w' base d (S.NQ k t o u again) { m with ov:=ov }/\aj (SF d { m with ov:=ov }) wc w'):=fun f kW=>by
   refine (DK base d u ((S.og k t).bZ o t.t.az again) { m with ov:=ov } t.t.dZ t.t.az again f (p5.ax kW) (by rw[hl5,B];exact hlen) (by rw[hx5,B];exact (ae HID).2)).mono ?_;rintro e w' ⟨rfl,z1,z2⟩;exact⟨rfl,z1,kW.aP.trans z2⟩
  have M:=ai C;clear HU1 d3 d4 x12 ls4 lb4 lg4 p5 C hc5 r Z hx5 hl5 hT5 hv5 hv4 ht4 hTb B;go_upto_region 9 with fail;go_cut [] from 49 (fun wd=>dF wd base d (S.NQ k t o u again) { m with ov:=ov }/\aj (SF d { m with ov:=ov }) wc wd)
  case first JJ KK hJ hK =>
   go_region_with (go_at_call 206;refine (ae HU2 _ ?kw).mono ?_;(case kw=>repeat (first | exact aj.refl _ _ | refine aj.drew ?_));rintro e w6 ⟨rfl,K,L⟩;have WB:=ai K;have TI:=ai L;clear K L)
   all_goals
    refine hK _ _ (Met.intro (hJ _ _ ?_))
    repeat apply Exists.intro
    refine⟨?rel,rfl⟩
    case rel=>first | exact⟨ae WB,ae TI⟩ | exact⟨(ae WB).ax (aj.refl aA _).drew,(ae TI).drew⟩
  case rest =>
   obtain⟨K,L⟩:=hcut;have hfin:iZ base d (S.NQ k t o u again) m w wc:=by
    have ho:TK base d (S.NQ k t o u again) m w wc:=⟨ov,K,ae Yu,(ae HR4).from (((ae M).trans L).mono (fun b n=>?_))⟩
    ·exact ho.stN
    ·rcases n with rfl | n | n | n | n
     ·exact .inl (.inl rfl)
     ·exact .inl (.inr (.inl n))
     ·exact .inl (jL n)
     ·exact .inl (iQ n)
     ·exact (ae Yu b n).imp_left (fun z=>xA z)
   have HF:=ai hfin;clear hfin K L HU2;go_wp2;go_ret;exact⟨rfl,ae HF⟩
def rC(o:Ord):Ord:=if o.kind=1 then { o with exp:=wrap64 (o.exp+o.aH),aH:=0 } else o
def mQ(l:List Ord)(i:Nat):List Ord:=(l.take i).map rC++l.drop i
theorem Qn(l:List Ord){i:Nat}(h:i<=l.length):(mQ l i).length=l.length:=by
 unfold mQ;rw[List.length_append,List.length_map,List.length_take,List.length_drop];omega
theorem UA(l:List Ord){i:Nat}(h:i<l.length):ak (mQ l i) i=ak l i:=by
 apply wV;unfold mQ;rw[List.getElem?_append_right (by simp;omega)];simp only[List.length_map,List.length_take];rw[List.getElem?_drop,<-lM h];congr 1;omega
theorem Qp(l:List Ord){i:Nat}(h:i<l.length):(mQ l i).set i (rC (ak l i))=mQ l (i+1):=by
 unfold mQ;have a:((l.take i).map rC).length=i:=by simp;omega
 have b:l.drop i=ak l i :: l.drop (i+1):=by
  rw[List.drop_eq_getElem_cons h];congr 1;have:=lM h;rw[List.getElem?_eq_getElem h]at this;exact Option.some.inj this
 have c:l.take (i+1)=l.take i++[ak l i]:=by
  rw[List.take_add_one,lM h]
  rfl
 rw[List.set_append_right _ _ (by omega),a,Nat.sub_self,b,List.set_cons_zero,c,List.map_append];simp
theorem Qm(l:List Ord):mQ l l.length=l.map rC:=by unfold mQ;simp
def RS.nU(S:RS):RS:={ S with l:=S.l.map rC,told:=S.told++[⟨0,4,⟨0,⟨#[]⟩,0,0,0,0,S.day⟩⟩],day:=wrap64 (S.day+1) }
theorem La(base d:Nat)(S:RS)(m:SM)(w:World)(h:dF w base d S m)(hlen:S.l.length<=1000)(hto:S.told.length<1000000000) :
 CT 172 #[PP d] w fun e w'=>e=.returned (.tuple #[])/\iZ base d S.nU m w w':=by
 obtain⟨a,c,O⟩:=aJ h.dV;obtain⟨N,H⟩:=dQ S.l.length;rw[H]at O;obtain⟨HS,A,U⟩:=fK h H O;have Y:mQ S.l 0=S.l:=by simp[mQ]
 have HST:Hid (dF w base d { S with l:=mQ S.l 0 } m):=by show dF w base d { S with l:=mQ S.l 0 } m;rw[Y];exact h
 have Xm:N<=1000:=by omega
 clear h O Y H hlen;go_enter Tryz.func172,Tryz.ntmps172;go_wp2;go_loopg [2] N (fun k iv wr=>∃i:Nat,iv=II (i:Int)/\i<=N/\k=N-i/\dF wr base d { S with l:=mQ S.l i } m/\aj (SF d m) w wr)
 case atStart=>exact⟨0,rfl,Nat.zero_le _,rfl,ae HST,aj.refl _ _⟩
 case round =>
  obtain⟨i,rfl,hi,hgk,n,B⟩:=hrel;have x:(mQ S.l i).length=N:=by rw[Qn S.l (by have:=ae A;omega)];exact ae A
  have v1:wr.cell? ⟨d,1,none⟩=some (.slice a N c):=by rw[<-ae U];exact n.ay.cell 1
  have MP:=n.ay.lt;by_cases D:i<N
  ·have J:i<S.l.length:=by rw[ae A];exact D
   have E:m.lv=.slice a ({ S with l:=mQ S.l i }:RS).l.length c:=by show m.lv=.slice a (mQ S.l i).length c;rw[x];exact ae U
   obtain⟨g,rfl,_,u,I⟩:=n.wW E (i:=i) (by show i<(mQ S.l i).length;rw[x];exact D);obtain⟨o,L⟩:=dQ (ak S.l i);have K:ak (mQ S.l i) i=o:=by rw[UA S.l J,L]
   simp only[K]at u;have c4:CC wr g (i * 13+4) (II o.kind):=u 4 _ rfl;have c8:CC wr g (i * 13+8) (II o.aH):=u 8 _ rfl;have c11:CC wr g (i * 13+11) (II o.exp):=u 11 _ rfl;have f8:=I (i * 13+8);have f11:=I (i * 13+11);have n1:¬i * 13+8=i * 13+11:=by omega
   have hsg:d≠g:=fun e=>by
    have r:=n.dV;rw[E]at r;obtain⟨cs,hcs⟩:=aF r (b:=g) rfl;exact au.ne n.ay hcs (by decide) e
   have M:=Qp S.l J;rw[L]at M;obtain⟨R,T,s,V,Q,P⟩:=nH M n B E K x;clear n B u I M E J L K x;by_cases C:o.kind=1
   ·have q:dF ((wr.setCell ⟨g,i * 13+11,none⟩ (II (wrap64 (o.exp+o.aH)))).setCell ⟨g,i * 13+8,none⟩ (II 0)) base d { S with l:=mQ S.l (i+1) } m/\aj (SF d m) w ((wr.setCell ⟨g,i * 13+11,none⟩ (II (wrap64 (o.exp+o.aH)))).setCell ⟨g,i * 13+8,none⟩ (II 0)):=by
     have v:i<(mQ S.l i).length:=by rw[ae P];exact D
     obtain⟨p1,q1⟩:=(ae T).iW (ae V) v (j:=11) (by omega) (II (wrap64 (o.exp+o.aH))) { o with exp:=wrap64 (o.exp+o.aH) } (by show _=(uN (ak (mQ S.l i) i)).set 11 _;rw[ae Q];rfl);obtain⟨p,y⟩:=p1.iW (i:=i) (by simp only[List.length_set];exact ae V) (by simp only[List.length_set];exact v) (j:=8) (by omega) (II 0) { o with exp:=wrap64 (o.exp+o.aH),aH:=0 } (by simp only;rw[dB v];rfl);simp only[List.set_set]at p;have G:rC o={ o with exp:=wrap64 (o.exp+o.aH),aH:=0 }:=by unfold rC;rw[if_pos C]
     have hs:=ae R;rw[G]at hs;rw[hs]at p;exact⟨p,(ae s).trans (q1.trans y)⟩
    have t:=ai q;rw[C]at c4;clear q;go_wp2;go_region;go_wp2;go_roundg (N-(i+1))
    case measure=>omega
    case rel=>exact⟨i+1,by push_cast;rfl,by omega,rfl,(ae t).1.ax (aj.refl aA _).drew,(ae t).2.drew⟩
   ·have G:rC o=o:=by unfold rC;rw[if_neg C]
    have q:dF wr base d { S with l:=mQ S.l (i+1) } m:=by
     have hs:=ae R;rw[G]at hs;have:(mQ S.l i).set i o=mQ S.l i:=by
      have hn:=ae Q;have v:i<(mQ S.l i).length:=by rw[ae P];exact D
      have W:=lM v;rw[hn]at W;obtain⟨h4,h5⟩:=List.getElem?_eq_some_iff.1 W;rw[<-h5];exact List.set_getElem_self h4
     rw[<-hs,this];exact ae T
    have t:=ai q;have hk2:(o.kind == 1)=false:=by simpa using C
    clear q;go_wp2;go_roundg (N-(i+1))
    case measure=>omega
    case rel=>exact⟨i+1,by push_cast;rfl,by omega,rfl,ae t,ae s⟩
  ·obtain rfl:i=N:=by omega
   have X:mQ S.l i=S.l.map rC:=by rw[<-ae A];exact Qm S.l
   rw[X]at n;have v3:CC wr d 3 (II S.day):=n.ay.cell 3;have F:=ai (xe base d { S with l:=S.l.map rC } m 4 ⟨0,⟨#[]⟩,0,0,0,0,S.day⟩ wr n hto);simp only[Tr.val]at F;have s:=ai B;clear n B X x;go_wp2_with fail;refine (ae F).mono ?_;rintro e w2 ⟨rfl,ov,p,y,r2⟩;have v3:CC w2 d 3 (II S.day):=p.ay.cell 3;have f3:=p.ay.frozen 3;have VV:=p.ay.lt;obtain⟨Z,q3⟩:=p.FN (wrap64 (S.day+1));have q:TK base d S.nU m w (w2.setCell ⟨d,3,none⟩ (II (wrap64 (S.day+1)))):=by
    refine⟨ov,Z,fun b f=>(y b f).imp_right (fun z=>Nat.le_trans (ae s).size z),((ae s).trans r2).from (q3.mono (fun b f=>?_))⟩;rcases f with rfl | f | f | f | f
    ·exact .inl (.inl rfl)
    ·exact .inl (.inr (.inl f))
    ·exact .inl (jL f)
    ·exact .inl (iQ f)
    ·rcases y b f with z | z
     ·exact .inl (xA z)
     ·exact .inr (Nat.le_trans (ae s).size z)
   have t:=ai q.stN;clear q p y r2 Z q3 F v1;go_wp2;go_end0;exact⟨rfl,ae t⟩
end Go.Proofs.YtigaphnafnpfnaaGreatDoor
