import Derived.Test.YtigaphnafnpfnaaGreatDoorQNP6
set_option linter.unusedVariables false
set_option linter.unusedSimpArgs false
set_option maxHeartbeats 8000000
set_option maxRecDepth 100000
namespace Go.Proofs.YtigaphnafnpfnaaGreatDoor
open Go.RowKit Go.Maps
attribute [local go_sem ↓] Go.wp_at_zero Go.wp_at_succ
theorem Tn:∀(os:List Ord) (i:Nat) (o:Ord) (j:Nat) (u:Value),os[i]?=some o->(mr o)[j]?=some u->(qE os)[i * 12+j]?=some u:=by
 intro os
 induction os with
 | nil=>intro i o j u h;simp at h
 | cons x os ih =>
   intro i o j u h hu;have hl:(mr x).length=12:=rfl;have hj:j<12:=by
    have:=(List.getElem?_eq_some_iff.1 hu).1
    simpa [mr] using this
   show (mr x++qE os)[i * 12+j]?=some u;cases i with
   | zero =>
     simp only[List.getElem?_cons_zero,Option.some.injEq]at h;subst h;rw[List.getElem?_append_left (by rw[hl];omega)]
     simpa using hu
   | succ i =>
     simp only[List.getElem?_cons_succ]at h;rw[List.getElem?_append_right (by rw[hl];omega),hl];have e:(i+1) * 12+j-12=i * 12+j:=by omega
     rw[e];exact ih i o j u h hu
theorem Tj:∀(ls:List kQ) (i:Nat) (l:kQ),ls[i]?=some l->(lM ls)[i * 3]?=some (II l.af)/\(lM ls)[i * 3+1]?=some (II l.aK)/\(lM ls)[i * 3+2]?=some (II l.num):=by
 intro ls
 induction ls with
 | nil=>intro i l h;simp at h
 | cons x ls ih =>
   intro i l h;have hf:lM (x :: ls)=II x.af :: II x.aK :: II x.num :: lM ls:=rfl;rw[hf];cases i with
   | zero =>
     simp only[List.getElem?_cons_zero,Option.some.injEq]at h;subst h;exact⟨rfl,rfl,rfl⟩
   | succ i =>
     simp only[List.getElem?_cons_succ]at h;have e:(i+1) * 3=i * 3+3:=by omega
     rw[e];exact ih i l h
def Yq(S:RS)(n lo:Nat)(w:World)(oa ka ta:Option Addr)(oc kc tc:Nat):Prop :=
 ∃vs,w.ownsRow lo 56 7 (.slice ta (jf S.t).length tc) (jf S.t).length (nU (jf S.t))/\w.ownsRow lo 54 12 (.slice oa n oc) n (qE (zZ S n))/\w.ownsRow lo 63 1 (.slice ka 4 kc) 4 vs/\∀k v,vs[k]?=some v->sH S lo w k v
theorem Yq.aC{S:RS}{n lo:Nat}{w w':World}{oa ka ta:Option Addr}{oc kc tc:Nat}(h:Yq S n lo w oa ka ta oc kc tc){K:Nat->Prop}(k:aj K w w')(hK:∀b,K b->b<lo):Yq S n lo w' oa ka ta oc kc tc:=by
 obtain⟨vs,h1,h2,h3,h4⟩:=h;have no:∀b,lo<=b->¬K b:=fun b hb hk=>by have:=hK b hk;omega
 refine⟨vs,aI h1 k (fun b hb=>no b (rW h1 hb)),aI h2 k (fun b hb=>no b (rW h2 hb)),aI h3 k (fun b hb=>no b (rW h3 hb)),fun j v hv=>?_⟩;obtain⟨ls,hb,hl⟩:=h4 j v hv;refine⟨ls,hb,?_⟩;rcases hl with h | ⟨g,cap,cs,e,g1,g2,g3⟩
 ·exact .inl h
 ·exact .inr ⟨g,cap,cs,e,g1,k.aF g2 (no g g1),g3⟩
def ve(S:RS)(n nb lo:Nat)(w:World)(oa ka:Option Addr)(oc kc:Nat):Prop :=
 ∃vs,w.ownsRow lo 54 12 (.slice oa n oc) n (qE (zZ S n))/\w.ownsRow lo 63 1 (.slice ka nb kc) nb vs/\∀k v,vs[k]?=some v->sH S lo w k v
theorem Yq.part{S:RS}{n lo:Nat}{w:World}{oa ka ta:Option Addr}{oc kc tc:Nat}(h:Yq S n lo w oa ka ta oc kc tc):ve S n 4 lo w oa ka oc kc:=by
 obtain⟨vs,h1,h2,h3,h4⟩:=h;exact⟨vs,h2,h3,h4⟩
theorem ve.aC{S:RS}{n nb lo:Nat}{w w':World}{oa ka:Option Addr}{oc kc:Nat}(h:ve S n nb lo w oa ka oc kc){K:Nat->Prop}(k:aj K w w')(hK:∀b,K b->b<lo):ve S n nb lo w' oa ka oc kc:=by
 obtain⟨vs,h2,h3,h4⟩:=h;have no:∀b,lo<=b->¬K b:=fun b hb hk=>by have:=hK b hk;omega
 refine⟨vs,aI h2 k (fun b hb=>no b (rW h2 hb)),aI h3 k (fun b hb=>no b (rW h3 hb)),fun j v hv=>?_⟩;obtain⟨ls,hb,hl⟩:=h4 j v hv;refine⟨ls,hb,?_⟩;rcases hl with h | ⟨g,cap,cs,e,g1,g2,g3⟩
 ·exact .inl h
 ·exact .inr ⟨g,cap,cs,e,g1,k.aF g2 (no g g1),g3⟩
theorem ve.bz{S:RS}{n nb lo:Nat}{w:World}{oa ka:Option Addr}{oc kc:Nat}(h:ve S n nb lo w oa ka oc kc){i:Nat}(hi:i<n):∃g,oa=some ⟨g,0,none⟩/\∀j u,(mr (oS S i))[j]?=some u->w.cell? ⟨g,i * 12+j,none⟩=some u:=by
 obtain⟨vs,h2,h3,h4⟩:=h;obtain⟨g,e,hc⟩:=uq h2 (by omega);exact⟨g,e,fun j u hu=>hc _ _ (Tn _ i (oS S i) j u (by simp[zZ,hi]) hu)⟩
theorem ve.bks{S:RS}{n nb lo:Nat}{w:World}{oa ka:Option Addr}{oc kc:Nat}(h:ve S n nb lo w oa ka oc kc){j:Nat}(hj:j<nb):∃g ls xa xc,ka=some ⟨g,0,none⟩/\Ar S (yX (j / 2)) ((j % 2:Nat):Int) ls 0/\w.cell? ⟨g,j,none⟩=some (.slice xa ls.length xc)/\∀i l,ls[i]?=some l->∃y,xa=some ⟨y,0,none⟩/\w.cell? ⟨y,i * 3,none⟩=some (II l.af)/\w.cell? ⟨y,i * 3+1,none⟩=some (II l.aK)/\w.cell? ⟨y,i * 3+2,none⟩=some (II l.num):=by
 obtain⟨vs,h2,h3,h4⟩:=h;obtain⟨g,e,hc⟩:=uq h3 (by omega);have hv:j<vs.length:=by have:=h3.1;omega
 obtain⟨ls,hb,hl⟩:=h4 j _ (List.getElem?_eq_getElem hv);obtain⟨xa,xc,ev⟩:=hl.form;refine⟨g,ls,xa,xc,e,hb,by rw[<-ev];exact hc _ _ (List.getElem?_eq_getElem hv),fun i l hil=>?_⟩;have hlo:=hl.owns;rw[ev]at hlo;have:=(List.getElem?_eq_some_iff.1 hil).1;obtain⟨y,e2,hc2⟩:=uq hlo (by omega);obtain⟨a,b,c⟩:=Tj _ i l hil;exact⟨y,e2,hc2 _ _ a,hc2 _ _ b,hc2 _ _ c⟩
theorem Y2(S:RS)(n nb lo lo2:Nat)(w:World)(oa ka ta Lt Ls ta2:Option Addr)(oc kc tc NC EG QU:Nat)(h1:ve S n nb lo w oa ka oc kc)(h2:ve S n nb lo2 w Lt Ls NC EG)(hn:n<=1000)(hnb:nb<=4)(tn:Nat)(ht:tn<=1000000)
 (WM:Hid (∀W,aj aJ w W->CT 19 #[.slice ta tn tc,.slice ta2 tn QU] W fun e w'=>e=.returned (.bool true)/\aj aJ W w')) :
 CT 24 #[.agg #[.slice oa n oc,.slice ka nb kc,.slice ta tn tc],.agg #[.slice Lt n NC,.slice Ls nb EG,.slice ta2 tn QU]] w fun e w'=>e=.returned (.bool true)/\aj aJ w w':=by
 have HO:Hid (∀i,i<n->∃(o:Ord) (g g2:Nat),oa=some ⟨g,0,none⟩/\Lt=some ⟨g2,0,none⟩/\(∀j u,(mr o)[j]?=some u->w.cell? ⟨g,i * 12+j,none⟩=some u)/\∀j u,(mr o)[j]?=some u->w.cell? ⟨g2,i * 12+j,none⟩=some u):=fun i hi=>by
  obtain⟨g,e1,c1⟩:=h1.bz hi;obtain⟨g2,e2,c2⟩:=h2.bz hi;exact⟨_,g,g2,e1,e2,c1,c2⟩
 have HB:Hid (∀j,j<nb->∃(g g2 m:Nat) (xa xa2:Option Addr) (xc xc2:Nat),ka=some ⟨g,0,none⟩/\Ls=some ⟨g2,0,none⟩/\m<=200/\w.cell? ⟨g,j,none⟩=some (.slice xa m xc)/\w.cell? ⟨g2,j,none⟩=some (.slice xa2 m xc2)/\∀i,i<m->∃(l:kQ) (y y2:Nat),xa=some ⟨y,0,none⟩/\xa2=some ⟨y2,0,none⟩/\(w.cell? ⟨y,i * 3,none⟩=some (II l.af)/\w.cell? ⟨y,i * 3+1,none⟩=some (II l.aK)/\w.cell? ⟨y,i * 3+2,none⟩=some (II l.num))/\w.cell? ⟨y2,i * 3,none⟩=some (II l.af)/\w.cell? ⟨y2,i * 3+1,none⟩=some (II l.aK)/\w.cell? ⟨y2,i * 3+2,none⟩=some (II l.num)):=fun j hj=>by
  obtain⟨g,ls,xa,xc,e1,b1,c1,l1⟩:=h1.bks hj;obtain⟨g2,ls2,xa2,xc2,e2,b2,c2,l2⟩:=h2.bks hj;obtain rfl:=b1.YA b2;have hm:ls.length<=200:=by
   rcases b1 with⟨e,_⟩ | ⟨e,_⟩ | ⟨_,_,_,_,h⟩
   ·exact absurd e (by decide)
   ·exact absurd e (by decide)
   ·exact h
  refine⟨g,g2,ls.length,xa,xa2,xc,xc2,e1,e2,hm,c1,c2,fun i hi=>?_⟩;obtain⟨y,f1,d1⟩:=l1 i _ (List.getElem?_eq_getElem hi);obtain⟨y2,f2,d2⟩:=l2 i _ (List.getElem?_eq_getElem hi);exact⟨_,y,y2,f1,f2,d1,d2⟩
 clear h1 h2;obtain⟨w1,hw1⟩:=kL ((w.alloc (.cells #[.slice oa n oc,.slice ka nb kc,.slice ta tn tc] 47)).alloc (.cells #[.slice Lt n NC,.slice Ls nb EG,.slice ta2 tn QU] 47));have k0:aj aJ w w1:=by rw[hw1];exact ((aj.refl aJ w).alloc _).alloc _
 have bA:aA w1 w.heap.size #[.slice oa n oc,.slice ka nb kc,.slice ta tn tc] 47:=by rw[hw1];exact (aA.new w _ _).alloc _
 have bB:aA w1 (w.heap.size+1) #[.slice Lt n NC,.slice Ls nb EG,.slice ta2 tn QU] 47:=by rw[hw1];exact aA.sQ w _ _ _
 have HZ:Hid (∀W,aj aJ w1 W->W.cell? ⟨w.heap.size,0,none⟩=some (.slice oa n oc)/\W.cell? ⟨w.heap.size,1,none⟩=some (.slice ka nb kc)/\W.cell? ⟨w.heap.size,2,none⟩=some (.slice ta tn tc)/\W.cell? ⟨w.heap.size+1,0,none⟩=some (.slice Lt n NC)/\W.cell? ⟨w.heap.size+1,1,none⟩=some (.slice Ls nb EG)/\W.cell? ⟨w.heap.size+1,2,none⟩=some (.slice ta2 tn QU)):=fun W k =>
  ⟨(k.aF bA aU).cell 0,(k.aF bA aU).cell 1,(k.aF bA aU).cell 2,(k.aF bB aU).cell 0,(k.aF bB aU).cell 1,(k.aF bB aU).cell 2⟩
 obtain⟨HW,HK0⟩:=dE hw1 k0;clear bA bB hw1 k0;go_enter Tryz.func24,Tryz.ntmps24;go_wp2_with fail;rw[<-ae HW];refine (ae WM w1 (ae HK0)).mono ?_;rintro e w2 ⟨rfl,k2⟩;clear WM;obtain⟨z0,z1,z2,z3,z4,z5⟩:=ae HZ w2 k2;have Rk:=au k2;clear k2 HW;go_wp2;go_loopg [6] n (fun g iv wr=>∃i:Nat,iv=II (i:Int)/\i<=n/\g=n-i/\aj aJ w1 wr)
 case atStart=>exact⟨0,rfl,Nat.zero_le _,rfl,ae Rk⟩
 case round =>
  obtain⟨i,rfl,hi,hgk,kr'⟩:=hrel;obtain⟨z0,z1,z2,z3,z4,z5⟩:=ae HZ wr kr';have kr:=(ae HK0).trans kr';by_cases hlt:i<n
  ·obtain⟨o,g1,g2,rfl,rfl,x1,x2⟩:=ae HO i hlt;have p0:CC wr g1 (i * 12) (II o.id):=kr.cell (x1 0 _ rfl) aU;have p1:CC wr g1 (i * 12+1) (II o.aG):=kr.cell (x1 1 _ rfl) aU;have p2:CC wr g1 (i * 12+2) (.string o.sym):=kr.cell (x1 2 _ rfl) aU;have p3:CC wr g1 (i * 12+3) (II o.side):=kr.cell (x1 3 _ rfl) aU;have p4:CC wr g1 (i * 12+4) (II o.kind):=kr.cell (x1 4 _ rfl) aU;have p5:CC wr g1 (i * 12+5) (II o.af):=kr.cell (x1 5 _ rfl) aU;have p6:CC wr g1 (i * 12+6) (II o.aK):=kr.cell (x1 6 _ rfl) aU;have p7:CC wr g1 (i * 12+7) (II o.entered):=kr.cell (x1 7 _ rfl) aU;have p8:CC wr g1 (i * 12+8) (II o.aO):=kr.cell (x1 8 _ rfl) aU;have p9:CC wr g1 (i * 12+9) (II o.filled):=kr.cell (x1 9 _ rfl) aU;have pa:CC wr g1 (i * 12+10) (II o.bZ):=kr.cell (x1 10 _ rfl) aU;have pb:CC wr g1 (i * 12+11) (II o.exp):=kr.cell (x1 11 _ rfl) aU;have q0:CC wr g2 (i * 12) (II o.id):=kr.cell (x2 0 _ rfl) aU;have q1:CC wr g2 (i * 12+1) (II o.aG):=kr.cell (x2 1 _ rfl) aU;have q2:CC wr g2 (i * 12+2) (.string o.sym):=kr.cell (x2 2 _ rfl) aU;have q3:CC wr g2 (i * 12+3) (II o.side):=kr.cell (x2 3 _ rfl) aU;have q4:CC wr g2 (i * 12+4) (II o.kind):=kr.cell (x2 4 _ rfl) aU;have q5:CC wr g2 (i * 12+5) (II o.af):=kr.cell (x2 5 _ rfl) aU;have q6:CC wr g2 (i * 12+6) (II o.aK):=kr.cell (x2 6 _ rfl) aU;have q7:CC wr g2 (i * 12+7) (II o.entered):=kr.cell (x2 7 _ rfl) aU;have q8:CC wr g2 (i * 12+8) (II o.aO):=kr.cell (x2 8 _ rfl) aU;have q9:CC wr g2 (i * 12+9) (II o.filled):=kr.cell (x2 9 _ rfl) aU;have qa:CC wr g2 (i * 12+10) (II o.bZ):=kr.cell (x2 10 _ rfl) aU;have qb:CC wr g2 (i * 12+11) (II o.exp):=kr.cell (x2 11 _ rfl) aU;have HK:=au kr';clear kr kr' x1 x2;go_wp2;go_quiet (fail);go_wp2;go_roundg (n-(i+1))
   case measure=>omega
   case rel=>exact⟨i+1,by push_cast;rfl,by omega,rfl,(ae HK).drewN _⟩
  ·obtain rfl:i=n:=by omega
   have HK:=au kr';clear kr kr' Rk;go_wp2;go_loopg [7] nb (fun g jv wq=>∃j:Nat,jv=II (j:Int)/\j<=nb/\g=nb-j/\aj aJ w1 wq)
   case atStart=>exact⟨0,rfl,Nat.zero_le _,rfl,ae HK⟩
   case round =>
    obtain⟨j,rfl,hj,abr,Xu⟩:=hrel;obtain⟨z0,z1,z2,z3,z4,z5⟩:=ae HZ wr Xu;have kr2:=(ae HK0).trans Xu;by_cases hj4:j<nb
    ·obtain⟨g1,g2,m,xa,xa2,xc,xc2,rfl,rfl,hm,c1,c2,hl⟩:=ae HB j hj4;have d1:CC wr g1 j (.slice xa m xc):=kr2.cell c1 aU;have d2:CC wr g2 j (.slice xa2 m xc2):=kr2.cell c2 aU;have i1:(j:Int)<(nb:Int):=by omega
     obtain⟨zn,Rj,HC2,HLv⟩:=pJ Xu c1 c2 hl;clear kr2 Xu c1 c2 hl;go_wp2;go_quiet (fail);go_wp2;go_loopg [8] m (fun g lv wz=>∃l:Nat,lv=II (l:Int)/\l<=m/\g=m-l/\aj aJ w1 wz)
     case atStart=>exact⟨0,rfl,Nat.zero_le _,rfl,(ae zn).drewN _⟩
     case round =>
      obtain⟨l,rfl,hl,adI,Qp⟩:=hrel;obtain⟨z0,z1,z2,z3,z4,z5⟩:=ae HZ wr Qp;have OU:=(ae HK0).trans Qp;have d1:CC wr g1 j (.slice xa m xc):=OU.cell (ae Rj) aU;have d2:CC wr g2 j (.slice xa2 m xc2):=OU.cell (ae HC2) aU;by_cases hlm:l<m
      ·obtain⟨L,y,y2,rfl,rfl,⟨a1,a2,a3⟩,b1,b2,b3⟩:=ae HLv l hlm;have p1:=OU.cell a1 aU;have p2:=OU.cell a2 aU;have p3:=OU.cell a3 aU;have q1:=OU.cell b1 aU;have q2:=OU.cell b2 aU;have q3:=OU.cell b3 aU;have l1:(l:Int)<(m:Int):=by omega
       have LG:=au Qp;clear OU Qp a1 a2 a3 b1 b2 b3;go_wp2;go_quiet (fail);go_wp2;go_roundg (m-(l+1))
       case measure=>omega
       case rel=>exact⟨l+1,by push_cast;rfl,by omega,rfl,(ae LG).drewN _⟩
      ·obtain rfl:l=m:=by omega
       have LG:=au Qp;clear OU Qp;go_wp2;go_roundg (nb-(j+1))
       case measure=>omega
       case rel=>exact⟨j+1,by push_cast;rfl,by omega,rfl,ae LG⟩
    ·obtain rfl:j=nb:=by omega
     go_wp2;go_ret;exact⟨rfl,kr2⟩
theorem ace(S:RS)(n lo lo2:Nat)(w:World)(oa ka ta Lt Ls ta2:Option Addr)(oc kc tc NC EG QU:Nat)(h1:Yq S n lo w oa ka ta oc kc tc)(h2:Yq S n lo2 w Lt Ls ta2 NC EG QU)(hn:n<=1000)(tn:Nat)(htn:(jf S.t).length=tn)(ht:tn<=1000000) :
 CT 24 #[.agg #[.slice oa n oc,.slice ka 4 kc,.slice ta tn tc],.agg #[.slice Lt n NC,.slice Ls 4 EG,.slice ta2 tn QU]] w fun e w'=>e=.returned (.bool true)/\aj aJ w w':=by
 have WM:Hid (∀W,aj aJ w W->CT 19 #[.slice ta tn tc,.slice ta2 tn QU] W fun e w'=>e=.returned (.bool true)/\aj aJ W w'):=fun W k=>by
  obtain⟨vs,a1,_⟩:=h1;obtain⟨vs2,a2,_⟩:=h2;have:=JY lo lo2 tc QU ta ta2 (jf S.t) W (aI a1 k (fun _ _ x=>x)) (aI a2 k (fun _ _ x=>x)) (by omega);rw[htn]at this;exact this
 exact Y2 S n 4 lo lo2 w oa ka ta Lt Ls ta2 oc kc tc NC EG QU h1.part h2.part hn (by omega) tn ht WM
theorem Y3(S:RS)(n nb lo lo2:Nat)(w:World)(oa ka Lt Ls:Option Addr)(oc kc NC EG:Nat)(h1:ve S n nb lo w oa ka oc kc)(h2:ve S n nb lo2 w Lt Ls NC EG)(hn:n<=1000)(hnb:nb<=4) :
 CT 24 #[.agg #[.slice oa n oc,.slice ka nb kc,.slice none 0 0],.agg #[.slice Lt n NC,.slice Ls nb EG,.slice none 0 0]] w fun e w'=>e=.returned (.bool true)/\aj aJ w w' :=
 Y2 S n nb lo lo2 w oa ka none Lt Ls none oc kc 0 NC EG 0 h1 h2 hn hnb 0 (by omega) (fun W k=>JY 0 0 0 0 none none [] W (World.ownsRow_nil _ _ _ _) (World.ownsRow_nil _ _ _ _) (by simp))
end Go.Proofs.YtigaphnafnpfnaaGreatDoor
