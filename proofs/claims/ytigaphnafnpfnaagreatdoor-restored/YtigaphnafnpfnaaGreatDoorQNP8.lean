import Derived.Test.YtigaphnafnpfnaaGreatDoorQNG15
set_option linter.unusedVariables false
set_option linter.unusedSimpArgs false
set_option maxHeartbeats 8000000
set_option maxRecDepth 100000
namespace Go.Proofs.YtigaphnafnpfnaaGreatDoor
open Go.RowKit Go.Maps
attribute [local go_sem ↓] Go.wp_at_zero Go.wp_at_succ
theorem XT(D:Nat)(ao:Option Addr)(len cap:Nat)(zs:Nat->Int)(base:Nat)(Z:Nat->Prop)(w0:World)(P bv:Nat)(x:Kx)(hbv:x.bv=bv)(n:Nat)(acts:Int)(w:World)(h:Pk D ao len cap zs base Z w0 P x n acts w)(hO:FC D ao len cap zs base P bv n)(hN:x.N<200)(hn:n<1000) :
 CT 36 #[PP P,PP D] w fun e w'=>e=.returned (.bool true)/\∃x' n' xk,(n<=n'/\n'<=n+1)/\Pk D ao len cap zs base Z w0 P x' n' xk w'/\V9 x x':=by
 have ha:=h.na;have hHl:=h.ok.hlen (by omega);have ha0:0<=acts:=by omega
 have ha2:acts<2000000:=by omega
 have HA:=au ha;clear hHl ha;have hO':=hO w acts h.dc (by rw[<-hbv];exact h.gX);obtain⟨HOr,HH⟩:=dE hO' h;have lP:=h.gX.lt;clear hO hO' h;go_enter Tryz.func36,Tryz.ntmps36;go_wp2_with fail;refine (ae HOr).mono ?_;rintro e w1 ⟨v,rfl,o,rfl,⟨i,t,hi,ht,ho⟩,hd1,k1⟩;have h1:=(ae HH).qw hd1 k1;obtain⟨w2,hw2⟩:=kL (w1.alloc (.cells (DW o) 52));have k2:aj aJ w1 w2:=by rw[hw2];exact (aj.refl aJ w1).alloc _
 have b2:aA w2 w1.heap.size (DW o) 52:=by rw[hw2];exact aA.new _ _ _
 have h2:=h1.bJ k2;have hE:=fun (W:World) (k:aj aJ w2 W)=>Xq (h2.ok.aB k) (h2.dc.Wu.aB k) h2.kn hN hn hi ht ho
 rw[hbv]at hE;have nfO:¬KF x w1.heap.size:=fun hf=>absurd (h1.ok.lt hf) (Nat.lt_irrefl _)
 have HZ:Hid (∀W,aj (KF x) w2 W->W.cell? ⟨P,0,none⟩=some (PP bv)/\W.cell? ⟨w1.heap.size,0,none⟩=some (II o.id)/\W.cell? ⟨w1.heap.size,1,none⟩=some (II o.aG)/\W.cell? ⟨w1.heap.size,2,none⟩=some (.string o.sym)/\W.cell? ⟨w1.heap.size,3,none⟩=some (II o.side)/\W.cell? ⟨w1.heap.size,4,none⟩=some (II o.kind)/\W.cell? ⟨w1.heap.size,5,none⟩=some (II o.af)/\W.cell? ⟨w1.heap.size,6,none⟩=some (II o.aK)):=by
  intro W k;have bW:=k.aF b2 nfO;exact⟨by have:=(k.aF h2.gX h2.nfP).cell 0;rw[hbv]at this;exact this,bW.cell 0,bW.cell 1,bW.cell 2,bW.cell 3,bW.cell 4,bW.cell 5,bW.cell 6⟩
 obtain⟨z0,z1,z2,z3,z4,z5,z6,z7⟩:=ae HZ w2 (aj.refl _ w2);obtain⟨H2,HB2,HNF⟩:=eY h2 b2 nfO;simp only[iT.val]at hE;have HE:=au hE;have HW2:Hid (w2=w1.alloc (.cells #[II o.id,II o.aG,.string o.sym,II o.side,II o.kind,II o.af,II o.aK] 52)):=hw2;have adN:=ho.aK;have HO:=au ho;clear hw2 k2 b2 h2 hE nfO h1 hd1 k1 ho;simp only[iT.val];go_wp2;rw[<-ae HW2];have lt2:w1.heap.size<w2.heap.size:=(ae HB2).lt;have lP2:P<w2.heap.size:=(ae H2).gX.lt;have ne1:P≠w2.heap.size:=by omega
 have ne2:w1.heap.size≠w2.heap.size:=by omega
 have acG:Hid (∀(W W':World),W=(w2.alloc (.cells #[II 0,II 0,II 0,II 0,II 0] 87)).drew->aj (KF x) W W'->aA W' w2.heap.size #[II 0,II 0,II 0,II 0,II 0] 87):=by
  rintro W W' rfl k;exact k.aF (aA.new w2 _ _).drew (fun hf=>by have:=(ae H2).ok.lt hf;omega)
 go_region_with (first | (go_at_call 64;refine (ae HE _ (by repeat (first | exact aj.refl _ _ | refine aj.drew ?_ | refine aj.alloc ?_ _))).mono ?_;rintro e w3 ⟨f,r,c,a,m,E,rfl,hres⟩;have Xx:=hres.jV;have Xr:aj (KF x) w2 w3:=aj.trans (by repeat (first | exact aj.refl _ _ | refine aj.drew ?_ | refine aj.alloc ?_ _)) Xx;obtain⟨y0,y1,y2,y3,y4,y5,y6,y7⟩:=ae HZ w3 Xr;have lt3:w2.heap.size<=w3.heap.size:=Xr.size;have ne3:P≠w3.heap.size:=(by omega);have ne4:w1.heap.size≠w3.heap.size:=(by omega);(try (have rb:=ae acG _ _ rfl Xx;have rb0:=rb.cell 0;have rb1:=rb.cell 1;have rb2:=rb.cell 2;have rb3:=rb.cell 3;have Wq:=rb.cell 4;have rf0:=rb.frozen 0;have rf1:=rb.frozen 1;have rf2:=rb.frozen 2;have rf3:=rb.frozen 3;have rf4:=rb.frozen 4;simp at rb0 rb1 rb2 rb3 Wq;have HRB:=au rb;clear rb));have acI:=au hres;have HKA:=au Xr;have HKR:=au Xx;clear hres Xr Xx))
 all_goals
  have kW:=ae HKA
  first
   | (obtain⟨w4,RB,hw4,hRB,k34,hnF,hge,Wq⟩:∃w4 RB,w4=((((((w3.setCell ⟨w2.heap.size,0,none⟩ (.int .i64 f)).setCell ⟨w2.heap.size,1,none⟩ (.int .i64 r)).setCell ⟨w2.heap.size,2,none⟩ (.int .i64 c)).setCell ⟨w2.heap.size,3,none⟩ (.int .i64 a)).setCell ⟨w2.heap.size,4,none⟩ (.int .i64 m)))/\RB=w2.heap.size/\aj (fun x=>x=RB) w3 w4/\(∀x2,jq w3 x2->¬KF x2 RB)/\w2.heap.size<=RB/\aA w4 RB #[II f,II r,II c,II a,II m] 87:=⟨_,_,rfl,rfl,((((((aj.refl (fun x=>x=w2.heap.size) w3).setCell (p:=⟨w2.heap.size,0,none⟩) (.inl rfl) _).setCell (p:=⟨w2.heap.size,1,none⟩) (.inl rfl) _).setCell (p:=⟨w2.heap.size,2,none⟩) (.inl rfl) _).setCell (p:=⟨w2.heap.size,3,none⟩) (.inl rfl) _).setCell (p:=⟨w2.heap.size,4,none⟩) (.inl rfl) _),(fun x2 h2=>h2.off (ae HRB) (by decide)),Nat.le_refl _,((((((ae HRB).set 0 _).set 1 _).set 2 _).set 3 _).set 4 _)⟩;rw[<-hw4,<-hRB])
   | (obtain⟨w4,RB,hw4,hRB,k34,hnF,hge,Wq⟩:∃w4 RB,w4=(w3.alloc (.cells #[.int .i64 f,.int .i64 r,.int .i64 c,.int .i64 a,.int .i64 m] 87))/\RB=w3.heap.size/\aj (fun x=>x=RB) w3 w4/\(∀x2,jq w3 x2->¬KF x2 RB)/\w2.heap.size<=RB/\aA w4 RB #[II f,II r,II c,II a,II m] 87:=⟨_,_,rfl,rfl,((aj.refl _ w3).alloc _),(fun x2 h2 hf=>absurd (h2.lt hf) (Nat.lt_irrefl _)),lt3,(aA.new w3 _ _)⟩;rw[<-hw4,<-hRB])
  clear hw4 hRB;have kF:aj (KF x) w2 w3:=ae HKA;have nS:∀{x c t},aA w2 x c t->x≠RB:=fun hb e=>by have:=hb.lt;omega
  have YV:aA w4 P #[PP x.bv,II n,II acts] 37:=k34.aF (kF.aF (ae H2).gX (ae H2).nfP) (nS (ae H2).gX);have ob4:aA w4 w1.heap.size (DW o) 52:=k34.aF (kF.aF (ae HB2) (ae HNF)) (nS (ae HB2));have aby:P≠RB:=aA.ne YV Wq (by decide);have p1:CC w4 P 1 (II (n:Int)):=YV.cell 1;have p2:CC w4 P 2 (II acts):=YV.cell 2;have g1:=YV.frozen 1;have g2:=YV.frozen 2;have r0:CC w4 RB 0 (II f):=Wq.cell 0;have r1:CC w4 RB 1 (II r):=Wq.cell 1;have r2:CC w4 RB 2 (II c):=Wq.cell 2;have r4:CC w4 RB 4 (II m):=Wq.cell 4;have o6:CC w4 w1.heap.size 6 (II o.aK):=ob4.cell 6;have o4:CC w4 w1.heap.size 4 (II o.kind):=ob4.cell 4;have adM:P≠w1.heap.size:=aA.ne YV ob4 (by decide);have HP4:=au YV;have hbase:¬Z RB:=(ae H2).nz hge;have hDR:D≠RB:=by obtain⟨a',_,hdb⟩:=(ae H2).dc.xx;exact nS hdb
  have HCR:Hid (0<len->∀a,ao=some a->a.block≠RB):=fun hl a e=>by have:=(ae H2).cb hl a e;omega
  obtain⟨WG,WC⟩:=dE hnF k34;clear z0 z1 z2 z3 z4 z5 z6 z7 y0 y1 y2 y3 y4 y5 y6 y7 YV ob4 Wq k34 kF nS kW hnF
  try clear rb0 rb1 rb2 rb3 Wq rf0 rf1 rf2 rf3 rf4
  rcases ae acI with⟨rfl,hnx,hsum,hf0,hr0,hc0,hmf⟩ | ⟨rfl,hk,kn⟩ | ⟨rfl,hk,kn⟩
  ·have Yl:=au hnx;clear hnx;have e1:(f+r+c == o.aK)=true:=by simp[hsum]
   have hf9:f<=9:=by omega
   have hr9:r<=9:=by omega
   have hc9:c<=9:=by omega
   have e2:decide (0<=f)=true:=by simp[hf0]
   have e3:decide (0<=r)=true:=by simp[hr0]
   have e4:decide (0<=c)=true:=by simp[hc0]
   have HS:=au hsum;clear hsum;by_cases hfz:f=0
   ·have em:(m == 0)=true:=by simp[hmf.2 hfz]
    have ef:(f == 0)=true:=by simp[hfz]
    clear hmf hfz;go_wp2;go_ret;obtain⟨x2,ok2,qP,yC,yD,yB,eb,eN,eZ,⟨nt,S',eH⟩,wV⟩:=((ae H2).bJ (by repeat (first | exact aj.refl _ _ | refine aj.drew ?_ | refine aj.alloc ?_ _))).next (ae Yl);have k34:=ae WC;refine⟨rfl,x2,n+1,acts+1,by omega,?_,.inr ⟨nt,S',eH⟩,eb,eN,eZ⟩;refine Pk.count (ae H2) (w1:=w4) (ok2.aC k34 (fun b hb e=>ae WG x2 ok2 (by rw[<-e];exact hb))) wV (by rw[eH,List.length_append,ae HA];push_cast;rfl) ⟨_,_,by rw[eb];exact ae HP4⟩ (yC.Jo k34 hDR (ae HCR) (fun e=>hbase (by rw[<-e];exact (ae H2).tb))) yD (yB.trans (k34.mono (fun x e=>by rw[e];exact hbase))) ?_ (((aj.refl (fun x=>x=P) w4).setCell (p:=⟨P,1,none⟩) (.inl rfl) _).setCell (p:=⟨P,2,none⟩) (.inl rfl) _);have:=((ae HP4).set 1 (II ((n:Int)+1))).set 2 (II (acts+1));rw[eb];push_cast;exact this
   ·have em:(m == 0)=false:=by simp;exact fun h=>hfz (hmf.1 h)
    have ef:(f == 0)=false:=by simp[hfz]
    clear hmf hfz;go_wp2;go_ret;obtain⟨x2,ok2,qP,yC,yD,yB,eb,eN,eZ,⟨nt,S',eH⟩,wV⟩:=((ae H2).bJ (by repeat (first | exact aj.refl _ _ | refine aj.drew ?_ | refine aj.alloc ?_ _))).next (ae Yl);have k34:=ae WC;refine⟨rfl,x2,n+1,acts+1,by omega,?_,.inr ⟨nt,S',eH⟩,eb,eN,eZ⟩;refine Pk.count (ae H2) (w1:=w4) (ok2.aC k34 (fun b hb e=>ae WG x2 ok2 (by rw[<-e];exact hb))) wV (by rw[eH,List.length_append,ae HA];push_cast;rfl) ⟨_,_,by rw[eb];exact ae HP4⟩ (yC.Jo k34 hDR (ae HCR) (fun e=>hbase (by rw[<-e];exact (ae H2).tb))) yD (yB.trans (k34.mono (fun x e=>by rw[e];exact hbase))) ?_ (((aj.refl (fun x=>x=P) w4).setCell (p:=⟨P,1,none⟩) (.inl rfl) _).setCell (p:=⟨P,2,none⟩) (.inl rfl) _);have:=((ae HP4).set 1 (II ((n:Int)+1))).set 2 (II (acts+1));rw[eb];push_cast;exact this
  ·have ek:(o.kind == 3)=true:=by simp[hk]
   clear hk;go_wp2;go_ret;have k34:=ae WC;have h3:=((ae H2).bJ (by repeat (first | exact aj.refl _ _ | refine aj.drew ?_ | refine aj.alloc ?_ _))).bJ kn;have h4:=h3.other k34 (ae WG x h3.ok) (fun e=>aby e.symm) (fun e=>hDR e.symm) (ae HCR) hbase;exact⟨rfl,x,n,acts,by omega,h4,V9.refl x⟩
  ·have ek:(o.kind == 4)=true:=by simp[hk]
   clear hk;go_wp2;go_ret;have k34:=ae WC;have h3:=((ae H2).bJ (by repeat (first | exact aj.refl _ _ | refine aj.drew ?_ | refine aj.alloc ?_ _))).bJ kn;have h4:=h3.other k34 (ae WG x h3.ok) (fun e=>aby e.symm) (fun e=>hDR e.symm) (ae HCR) hbase;exact⟨rfl,x,n,acts,by omega,h4,V9.refl x⟩
end Go.Proofs.YtigaphnafnpfnaaGreatDoor
