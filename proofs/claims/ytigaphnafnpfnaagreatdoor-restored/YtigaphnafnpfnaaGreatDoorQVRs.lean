import Derived.Test.YtigaphnafnpfnaaGreatDoorQVW
set_option linter.unusedVariables false
set_option linter.unusedSimpArgs false
set_option maxHeartbeats 8000000
set_option maxRecDepth 100000
namespace Go.Proofs.YtigaphnafnpfnaaGreatDoor
open Go.RowKit Go.Maps
attribute [local go_sem ↓] Go.wp_at_zero Go.wp_at_succ
structure Pv where
 oa:Option Addr
 on:Nat
 oc:Nat
 ka:Option Addr
 kn:Nat
 kc:Nat
 ta:Option Addr
 tn:Nat
 tc:Nat
def Pv.cells(p:Pv):Array Value:=#[.slice p.oa p.on p.oc,.slice p.ka p.kn p.kc,.slice p.ta p.tn p.tc]
structure Rst(σ τ:Type)(w:World) where
 P:σ->Nat
 bv:σ->Nat
 n:σ->Nat
 A:σ->Nat
 T:σ->List UInt8
 bq:τ->Nat
 fin:σ->Bool
 J:σ->ByteArray
 L:σ->Nat
 S1:σ->World->Prop
 S2:σ->τ->World->Prop
 S3:σ->τ->Nat->World->Prop
 S4:σ->τ->Nat->World->Prop
 S5:σ->τ->Nat->World->Prop
 PA:σ->Pv->World->Prop
 PB:σ->τ->Pv->World->Prop
 PC:σ->Pv->World->Prop
 PD:σ->τ->Pv->World->Prop
 Fin:World->Prop
 k1:∀{s W W'},S1 s W->aj aJ W W'->S1 s W'
 k2:∀{s t W W'},S2 s t W->aj aJ W W'->S2 s t W'
 k3:∀{s t Q W W'},S3 s t Q W->aj aJ W W'->S3 s t Q W'
 k5:∀{s t Q W W'},S5 s t Q W->aj aJ W W'->S5 s t Q W'
 kA:∀{s p W W'},PA s p W->aj aJ W W'->PA s p W'
 kC:∀{s p W W'},PC s p W->aj aJ W W'->PC s p W'
 kB:∀{s t p W W'},PB s t p W->aj aJ W W'->PB s t p W'
 kD:∀{s t p W W'},PD s t p W->aj aJ W W'->PD s t p W'
 b1:∀{s W},S1 s W->aA W (P s) #[PP (bv s),II (n s:Int),II (A s:Int)] 37
 f1:∀{s W},S1 s W->n s<=200/\A s<=1000/\(T s).length<=1000000/\(T s).count 10=A s
 c1:∀{s W},S1 s W->CT 21 #[PP (P s)] W fun e w'=>∃p:Pv,e=.returned (.tuple #[.agg p.cells,.bool true])/\aj aJ W w'/\PA s p w'
 j1:∀{s W},S1 s W->CT 28 #[PP (bv s)] W fun e w'=>e=.returned (.string ⟨(T s).toArray⟩)/\aj aJ W w'
 r1:∀{s W} (k:Nat),S1 s W->k<=5->CT 30 #[.string ⟨(T s++([99,108,111,115,101]:List UInt8).take k).toArray⟩] W fun e w'=>∃t,e=.returned (.tuple #[PP (bq t),II 0,II 0])/\aj aJ W w'/\S2 s t w'
 s21:∀{s t W},S2 s t W->S1 s W
 q2:∀{s t Q W W'},S2 s t W->aj aJ W W'->W.heap.size<=Q->aA W' Q #[PP (bq t),II (n s:Int),II (A s:Int)] 37->S3 s t Q W'
 s31:∀{s t Q W},S3 s t Q W->S1 s W
 b3:∀{s t Q W},S3 s t Q W->aA W Q #[PP (bq t),II (n s:Int),II (A s:Int)] 37
 c3:∀{s t Q W},S3 s t Q W->CT 21 #[PP Q] W fun e w'=>∃p:Pv,e=.returned (.tuple #[.agg p.cells,.bool true])/\aj aJ W w'/\PB s t p w'
 e3:∀{s t p p' W},PA s p W->PB s t p' W->CT 24 #[.agg p.cells,.agg p'.cells] W fun e w'=>e=.returned (.bool true)/\aj aJ W w'
 u3:∀{s t Q W},S3 s t Q W->CT 23 #[PP (bv s)] W fun e w'=>e=.returned (II 0)/\S4 s t Q w'
 b4:∀{s t Q W},S4 s t Q W->aA W Q #[PP (bq t),II (n s:Int),II (A s:Int)] 37
 u4:∀{s t Q W},S4 s t Q W->CT 23 #[PP (bq t)] W fun e w'=>e=.returned (II 0)/\S5 s t Q w'
 b5:∀{s t Q W},S5 s t Q W->aA W (P s) #[PP (bv s),II (n s:Int),II (A s:Int)] 37/\aA W Q #[PP (bq t),II (n s:Int),II (A s:Int)] 37
 c5:∀{s t Q W},S5 s t Q W->CT 21 #[PP (P s)] W fun e w'=>∃p:Pv,e=.returned (.tuple #[.agg p.cells,.bool (fin s)])/\aj aJ W w'/\PC s p w'
 d5:∀{s t Q W},S5 s t Q W->CT 21 #[PP Q] W fun e w'=>∃p:Pv,e=.returned (.tuple #[.agg p.cells,.bool (fin s)])/\aj aJ W w'/\PD s t p w'
 e5:∀{s t p p' W},PC s p W->PD s t p' W->CT 24 #[.agg p.cells,.agg p'.cells] W fun e w'=>e=.returned (.bool true)/\aj aJ W w'
 r5:∀{s t Q W},S5 s t Q W->CT 30 #[.string ⟨(T s++[99,108,111,115,10]).toArray⟩] W fun e w'=>e=.returned (.tuple #[.pointer none,II 13,II ((A s:Int)+1)])/\aj aJ W w'
 j5:∀{s t Q W},S5 s t Q W->CT 28 #[PP (bv s)] W fun e w'=>e=.returned (.string (J s))/\aj aJ W w'
 i5:∀{s t Q W},S5 s t Q W->CT 28 #[PP (bq t)] W fun e w'=>e=.returned (.string (J s))/\aj aJ W w'
 t5:∀{s t Q W},S5 s t Q W->CT 17 #[PP (bv s),II 0] W fun e w'=>∃a c,e=.returned (.slice a (L s) c)/\aj aJ W w'
 v5:∀{s t Q W},S5 s t Q W->CT 17 #[PP (bq t),II 0] W fun e w'=>∃a c,e=.returned (.slice a (L s) c)/\aj aJ W w'
 fi:∀{s t Q W},S5 s t Q W->Fin W
theorem ZF(k:Nat)(hk:k<=5):(⟨#[99,108,111,115,101]⟩:ByteArray).extract 0 k=⟨(([99,108,111,115,101]:List UInt8).take k).toArray⟩:=by
 have:k=0\/k=1\/k=2\/k=3\/k=4\/k=5:=by omega
 rcases this with rfl | rfl | rfl | rfl | rfl | rfl <;> rfl
theorem RY(a b:List UInt8):(⟨a.toArray⟩:ByteArray)++(⟨b.toArray⟩:ByteArray)=⟨(a++b).toArray⟩:=by
 apply ByteArray.ext;rw[ByteArray.data_append];simp
theorem SI(T:List UInt8)(i:Nat)(h:i<T.length):(T.take (i+1)).count 10=(T.take i).count 10+if T[i]=10 then 1 else 0:=by
 rw[List.take_succ_eq_append_getElem h,List.count_append,List.count_singleton];congr 1;by_cases e:T[i]=10 <;> simp[e]
theorem aaH(b:UInt8):((b.toNat:Int) == 10)=decide (b=10):=by
 by_cases e:b=10
 ·subst e;rfl
 ·have:b.toNat≠10:=fun h=>e (UInt8.toNat_inj.1 h)
  rw[decide_eq_false e];simp;omega
theorem Ei{σ τ:Type}(ao:Option Addr)(len cap:Nat)(KX:Int)(w:World)(R:Rst σ τ w)
 (h22:CT 22 #[PP w.heap.size,.bool true] (w.alloc (.cells #[.slice ao len cap,II 0] 28)) fun e w'=>∃s,e=.returned (PP (R.P s))/\R.S1 s w')
 (h29:∀W,CT 29 #[II KX,II 6] W fun e w'=>∃v,e=.returned (II v)/\0<=v/\v<6/\w'=W) :
 CT 12 #[.slice ao len cap,II KX] w fun e w'=>e=.returned (.bool true)/\R.Fin w':=by
 obtain⟨H22,H29⟩:=dE h22 h29;clear h22 h29;go_enter Tryz.func12,Tryz.ntmps12;go_wp2_with fail;refine (ae H22).mono ?_;rintro e w1 ⟨s,rfl,h1⟩;clear H22;have H1:=au h1;clear h1;go_wp2_with fail;refine (R.c1 (ae H1)).mono ?_;rintro e w2 ⟨p,rfl,k2,pa⟩;have h2:=R.k1 (ae H1) k2;have p0:CC w2 (R.P s) 0 (PP (R.bv s)):=(R.b1 h2).cell 0;have pl:R.P s<w2.heap.size:=(R.b1 h2).lt;obtain⟨oa,on,oc,ka,kn,kc,ta,tn,tc⟩:=p;simp only[Pv.cells];obtain⟨H2,HA⟩:=dE h2 pa;clear h2 pa k2 H1;go_wp2_with fail;refine (R.j1 (R.k1 (ae H2) (by repeat (first | exact aj.refl _ _ | refine aj.drew ?_ | refine aj.alloc ?_ _)))).mono ?_;rintro e w3 ⟨rfl,k3⟩;have k23:aj aJ w2 w3:=aj.trans (by repeat (first | exact aj.refl _ _ | refine aj.drew ?_ | refine aj.alloc ?_ _)) k3;have HBA:Hid (aA w3 w2.heap.size #[.slice oa on oc,.slice ka kn kc,.slice ta tn tc] 47):=k3.aF (aA.new w2 _ _) aU;have H3:=au (R.k1 (ae H2) k23);have Wv:=au (R.kA (ae HA) k23);clear k3 k23 H2 HA p0 pl;go_wp2_with fail;refine (ae H29 _).mono ?_;rintro e w4 ⟨v,rfl,v0,v6,rfl⟩;obtain⟨k,rfl⟩:∃k:Nat,v=(k:Int):=⟨v.toNat,by omega⟩;have hk:k<=5:=by omega
 have hTl:=(R.f1 (ae H3)).2.2.1;have hov:¬9223372036854775807<(R.T s).length+k:=by omega
 go_wp2_with fail;rw[ZF k hk,RY];refine (R.r1 k (ae H3) hk).mono ?_;rintro e w5 ⟨t,rfl,k5,h5⟩;have aaM:=au (k5.aF (ae HBA) aU);have HA5:=au (R.kA (ae Wv) k5);have p0:CC w5 (R.P s) 0 (PP (R.bv s)):=(R.b1 (R.s21 h5)).cell 0;have p1:CC w5 (R.P s) 1 (II (R.n s:Int)):=(R.b1 (R.s21 h5)).cell 1;have p2:CC w5 (R.P s) 2 (II (R.A s:Int)):=(R.b1 (R.s21 h5)).cell 2;have H5:=au h5;clear k5 h5 HBA Wv H3 H29 hov v0 v6;go_wp2_with fail;go_region;obtain⟨w6,hw6⟩:=kL ((w5.alloc (.cells #[PP (R.bq t),II (R.n s:Int),II (R.A s:Int)] 37)).drew);rw[<-hw6];have k6:aj aJ w5 w6:=by rw[hw6];exact ((aj.refl aJ w5).alloc _).drew
 have h6:R.S3 s t w5.heap.size w6:=R.q2 (ae H5) k6 (Nat.le_refl _) (by rw[hw6];exact (aA.new w5 _ _).drew);obtain⟨Q,hQ⟩:=mf w5.heap.size;rw[hQ]at h6 ⊢;have aaN:=au (k6.aF (ae aaM) aU);have HA6:=au (R.kA (ae HA5) k6);have H6:=au h6;clear k6 h6 hw6 hQ aaM HA5 H5 p0 p1 p2 hTl;go_wp2_with fail;refine (R.c3 (ae H6)).mono ?_;rintro e w7 ⟨p,rfl,k7,pb⟩;obtain⟨Lt,on2,NC,Ls,wV,EG,ta2,tn2,QU⟩:=p;simp only[Pv.cells];have bA7:=k7.aF (ae aaN) aU;have a0:CC w7 w2.heap.size 0 (.slice oa on oc):=bA7.cell 0;have a1:CC w7 w2.heap.size 1 (.slice ka kn kc):=bA7.cell 1;have a2:CC w7 w2.heap.size 2 (.slice ta tn tc):=bA7.cell 2;have bl7:w2.heap.size<w7.heap.size:=bA7.lt;have HSame:Hid (∀W,aj aJ w7 W->CT 24 #[.agg #[.slice oa on oc,.slice ka kn kc,.slice ta tn tc],.agg #[.slice Lt on2 NC,.slice Ls wV EG,.slice ta2 tn2 QU]] W fun e w'=>e=.returned (.bool true)/\aj aJ W w'):=fun W k=>by
  have:=R.e3 (R.kA (R.kA (ae HA6) k7) k) (R.kB pb k);exact this
 have H7:=au (R.k3 (ae H6) k7);clear k7 pb bA7 aaN HA6 H6;go_wp2_with fail;refine (ae HSame _ (by repeat (first | exact aj.refl _ _ | refine aj.drew ?_ | refine aj.alloc ?_ _))).mono ?_;rintro e w8 ⟨rfl,k8⟩;have h8:=R.k3 (ae H7) (aj.trans (by repeat (first | exact aj.refl _ _ | refine aj.drew ?_ | refine aj.alloc ?_ _)) k8);obtain⟨hn2,hA2,hTl,hcnt⟩:=R.f1 (R.s31 h8);obtain⟨HC,H8⟩:=dE hcnt h8;clear h8 k8 HSame H7 a0 a1 a2 bl7 hcnt;go_wp2;go_loopg [18,19] (R.T s).length (fun g lv iv wq=>∃i:Nat,iv=II (i:Int)/\lv=II (((R.T s).take i).count 10:Nat)/\i<=(R.T s).length/\g=(R.T s).length-i/\aj aJ w8 wq)
 case atStart=>exact⟨0,rfl,rfl,Nat.zero_le _,rfl,aj.refl _ _⟩
 case round =>
  obtain⟨i,rfl,rfl,hi,hgk,kr⟩:=hrel;by_cases hlt:i<(R.T s).length
  ·have e1:decide ((i:Int)<((R.T s).length:Int))=true:=by simp;omega
   have hcb:((R.T s).take i).count 10<=1000000:=Nat.le_trans List.count_le_length (by rw[List.length_take];omega);have hcs:=SI (R.T s) i hlt;have hu8:=aaH (R.T s)[i];obtain⟨HCS,HU,HK⟩:=eY hcs hu8 kr;clear hcs hu8 kr;go_wp2
   ·rename_i hq;have hq2:(R.T s)[i]=10:=of_decide_eq_true ((ae HU).symm.trans hq);go_roundg ((R.T s).length-(i+1))
    case measure=>omega
    case rel =>
     refine⟨i+1,by push_cast;rfl,?_,by omega,rfl,ae HK⟩;rw[ae HCS,if_pos hq2];push_cast;rfl
   ·rename_i hq;have hq2:¬(R.T s)[i]=10:=of_decide_eq_false ((ae HU).symm.trans hq);go_roundg ((R.T s).length-(i+1))
    case measure=>omega
    case rel =>
     refine⟨i+1,by push_cast;rfl,?_,by omega,rfl,ae HK⟩;rw[ae HCS,if_neg hq2];rfl
  ·obtain rfl:i=(R.T s).length:=by omega
   have e1:decide (((R.T s).length:Int)<((R.T s).length:Int))=false:=by simp
   have h9:=R.k3 (ae H8) kr;have p0:CC wr (R.P s) 0 (PP (R.bv s)):=(R.b1 (R.s31 h9)).cell 0;have hc:((R.T s).take (R.T s).length).count 10=R.A s:=by rw[List.take_length];exact ae HC
   rw[hc];have H9:=au h9;clear h9 kr H8 hc HC hgk hi hlt;go_wp2_with fail;refine (R.u3 (ae H9)).mono ?_;rintro e w10 ⟨rfl,h10⟩;have q0:CC w10 Q 0 (PP (R.bq t)):=(R.b4 h10).cell 0;have H10:=au h10;clear h10 H9 p0;go_wp2_with fail;refine (R.u4 (ae H10)).mono ?_;rintro e w11 ⟨rfl,h11⟩;have H11:=au h11;clear h11 H10 q0;go_wp2_with fail;refine (R.c5 (ae H11)).mono ?_;rintro e w12 ⟨p,rfl,k12,pc⟩;have H12:=au (R.k5 (ae H11) k12);obtain⟨oa3,on3,oc3,ka3,kn3,Ea,ta3,tn3,tc3⟩:=p;simp only[Pv.cells];have aaO:=au pc;clear k12 pc H11;go_wp2_with fail;refine (R.d5 (R.k5 (ae H12) (by repeat (first | exact aj.refl _ _ | refine aj.drew ?_ | refine aj.alloc ?_ _)))).mono ?_;rintro e X9 ⟨p,rfl,k13,pd⟩;have aam:aj aJ w12 X9:=aj.trans (by repeat (first | exact aj.refl _ _ | refine aj.drew ?_ | refine aj.alloc ?_ _)) k13;have HB3:Hid (aA X9 w12.heap.size #[.slice oa3 on3 oc3,.slice ka3 kn3 Ea,.slice ta3 tn3 tc3] 47):=k13.aF (aA.new w12 _ _) aU;have H13:=au (R.k5 (ae H12) aam);have aaP:=au (R.kC (ae aaO) aam);obtain⟨oa4,on4,oc4,ka4,kn4,Gh,ta4,tn4,tc4⟩:=p;simp only[Pv.cells];have aaT:=au pd;have hov:¬9223372036854775807<(R.T s).length+5:=by omega
   have l13:w12.heap.size<X9.heap.size:=(ae HB3).lt;clear k13 aam pd H12 aaO;go_wp2_with fail;rw[show (⟨#[99,108,111,115,10]⟩:ByteArray)=⟨([99,108,111,115,10]:List UInt8).toArray⟩ from rfl,RY];refine (R.r5 (R.k5 (ae H13) (by repeat (first | exact aj.refl _ _ | refine aj.drew ?_ | refine aj.alloc ?_ _)))).mono ?_;rintro e VV ⟨rfl,k14⟩;have Uf:aj aJ X9 VV:=aj.trans (by repeat (first | exact aj.refl _ _ | refine aj.drew ?_ | refine aj.alloc ?_ _)) k14;have bC:=Uf.aF (ae HB3) aU;have bD:aA VV X9.heap.size #[.slice oa4 on4 oc4,.slice ka4 kn4 Gh,.slice ta4 tn4 tc4] 47:=k14.aF (aA.new X9 _ _) aU;have h14:=R.k5 (ae H13) Uf;have c0:CC VV w12.heap.size 0 (.slice oa3 on3 oc3):=bC.cell 0;have c1:CC VV w12.heap.size 1 (.slice ka3 kn3 Ea):=bC.cell 1;have c2:CC VV w12.heap.size 2 (.slice ta3 tn3 tc3):=bC.cell 2;have d0:CC VV X9.heap.size 0 (.slice oa4 on4 oc4):=bD.cell 0;have d1:CC VV X9.heap.size 1 (.slice ka4 kn4 Gh):=bD.cell 1;have d2:CC VV X9.heap.size 2 (.slice ta4 tn4 tc4):=bD.cell 2;have p0:CC VV (R.P s) 0 (PP (R.bv s)):=(R.b5 h14).1.cell 0;have p1:CC VV (R.P s) 1 (II (R.n s:Int)):=(R.b5 h14).1.cell 1;have HSame:Hid (∀W,aj aJ VV W->CT 24 #[.agg #[.slice oa3 on3 oc3,.slice ka3 kn3 Ea,.slice ta3 tn3 tc3],.agg #[.slice oa4 on4 oc4,.slice ka4 kn4 Gh,.slice ta4 tn4 tc4]] W fun e w'=>e=.returned (.bool true)/\aj aJ W w'):=fun W k=>by
    have:=R.e5 (R.kC (R.kC (ae aaP) Uf) k) (R.kD (R.kD (ae aaT) Uf) k);exact this
   have H14:=au h14;clear k14 Uf bC bD h14 HB3 H13 aaP aaT hov l13;go_wp2_with fail;refine (ae HSame _ (by repeat (first | exact aj.refl _ _ | refine aj.drew ?_ | refine aj.alloc ?_ _))).mono ?_;rintro e Y5 ⟨rfl,k15⟩;have h15:=R.k5 (ae H14) (aj.trans (by repeat (first | exact aj.refl _ _ | refine aj.drew ?_ | refine aj.alloc ?_ _)) k15);have p0:CC Y5 (R.P s) 0 (PP (R.bv s)):=(R.b5 h15).1.cell 0;have q0:CC Y5 Q 0 (PP (R.bq t)):=(R.b5 h15).2.cell 0;have Yd:=au h15;clear h15 k15 c0 c1 c2 d0 d1 d2 p1 HSame H14;go_wp2_with fail;have HJ:Hid (∀(W:World) (b:Nat),aj aJ Y5 W->(b=R.bv s\/b=R.bq t)->CT 28 #[PP b] W fun e w'=>e=.returned (.string (R.J s))/\aj aJ Y5 w'):=fun W b k hb=>by
    rcases hb with rfl | rfl
    ·exact (R.j5 (R.k5 (ae Yd) k)).mono (fun e w' ⟨h1,h2⟩=>⟨h1,k.trans h2⟩)
    ·exact (R.i5 (R.k5 (ae Yd) k)).mono (fun e w' ⟨h1,h2⟩=>⟨h1,k.trans h2⟩)
   go_region_with (go_at_call 28;refine (ae HJ _ _ (by repeat (first | exact aj.refl _ _ | assumption | refine aj.drew ?_ | refine aj.alloc ?_ _)) (by first | exact .inl rfl | exact .inr rfl)).mono ?_;rintro e wz ⟨rfl,kz⟩;have p0z:CC wz (R.P s) 0 (PP (R.bv s)):=kz.cell p0 aU;have q0z:CC wz Q 0 (PP (R.bq t)):=kz.cell q0 aU)
   all_goals
    have HT:Hid (∀(W:World) (b:Nat),aj aJ Y5 W->(b=R.bv s\/b=R.bq t)->CT 17 #[PP b,II 0] W fun e w'=>∃a c,e=.returned (.slice a (R.L s) c)/\aj aJ Y5 w'):=fun W b k hb=>by
     rcases hb with rfl | rfl
     ·exact (R.t5 (R.k5 (ae Yd) k)).mono (fun e w' ⟨a,c,h1,h2⟩=>⟨a,c,h1,k.trans h2⟩)
     ·exact (R.v5 (R.k5 (ae Yd) k)).mono (fun e w' ⟨a,c,h1,h2⟩=>⟨a,c,h1,k.trans h2⟩)
    have HP2:=au (fun (W:World) (k:aj aJ Y5 W)=>(R.b5 (R.k5 (ae Yd) k)).1);clear HJ p0 q0;go_wp2;go_region_with (go_at_call 17;refine (ae HT _ _ (by repeat (first | exact aj.refl _ _ | assumption | refine aj.drew ?_ | refine aj.alloc ?_ _)) (by first | exact .inl rfl | exact .inr rfl)).mono ?_;rintro e wy ⟨ay,cy,rfl,ky⟩;have p0y:CC wy (R.P s) 0 (PP (R.bv s)):=(ae HP2 _ ky).cell 0;have q0y:CC wy Q 0 (PP (R.bq t)):=(R.b5 (R.k5 (ae Yd) ky)).2.cell 0)
    all_goals
     have p2y:CC wy (R.P s) 2 (II (R.A s:Int)):=(ae HP2 _ ky).cell 2;have Yh:=au (fun (W:World) (k:aj aJ Y5 W)=>R.fi (R.k5 (ae Yd) k));have hff:(R.fin s == R.fin s)=true:=by simp
     clear HT HP2 Yd p0y q0y p0z q0z;go_wp2
     first
     | (go_ret;exact⟨rfl,ae Yh _ (by repeat (first | exact aj.refl _ _ | assumption | refine aj.drew ?_ | refine aj.drewN ?_ _ | refine aj.alloc ?_ _))⟩)
     | (go_quiet (fail);go_wp2;go_ret;exact⟨rfl,ae Yh _ (by repeat (first | exact aj.refl _ _ | assumption | refine aj.drew ?_ | refine aj.drewN ?_ _ | refine aj.alloc ?_ _))⟩)
     | (trace_state;sorry)
end Go.Proofs.YtigaphnafnpfnaaGreatDoor
