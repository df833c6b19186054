import Derived.Test.YtigaphnafnpfnaaGreatDoorQVP3
set_option linter.unusedVariables false
set_option linter.unusedSimpArgs false
set_option maxHeartbeats 8000000
set_option maxRecDepth 100000
namespace Go.Proofs.YtigaphnafnpfnaaGreatDoor
open Go.RowKit Go.Maps
theorem Dc.Gl{D:Nat}{ao:Option Addr}{len cap:Nat}{zs:Nat->Int}{base:Nat}{w w':World}(h:Dc D ao len cap zs base w){S:Nat->Prop}(k:au S w w')(h1:¬S D)(h2:0<len->∀a,ao=some a->¬S a.block)(h3:¬S qJ):Dc D ao len cap zs base w':=by
 obtain⟨a,ha,hb⟩:=h.vk
 exact⟨⟨a,ha,k.aB hb h1⟩,h.code.at k h2,h.old,h.bD,h.Yr.aC k h3,h.bT⟩
structure Pk(D:Nat)(ao:Option Addr)(len cap:Nat)(zs:Nat->Int)(base:Nat)(Z:Nat->Prop)(w0:World)(P:Nat)(x:Kx)(n:Nat)(acts:Int)(w:World):Prop where
 ok:nN w x
 kn:Kn x.S n
 na:acts=(x.H.length:Int)
 eG:az w P #[.pointer (some ⟨x.bv,0,none⟩),.int .i64 n,.int .i64 acts] 37
 dc:Dc D ao len cap zs base w
 mD:∀b,KF x b->¬Z b/\(0<len->∀a,ao=some a->a.block≠b)
 pP:¬Z P/\(0<len->∀a,ao=some a->a.block≠P)
 zD:¬Z D
 zl:∀b,Z b->b<w0.heap.size
 tb:Z qJ
 fr:au (fun b=>¬Z b) w0 w
section
variable {D : Nat} {ao : Option Addr} {len cap : Nat} {zs : Nat -> Int} {base : Nat} {Z : Nat -> Prop} {w0 : World} {P : Nat} {x : Kx} {n : Nat} {acts : Int} {w w' : World}
theorem Pk.nfD(h:Pk D ao len cap zs base Z w0 P x n acts w):¬KF x D:=by
 obtain⟨a,_,hb⟩:=h.dc.vk
 exact h.ok.off hb (by decide)
theorem Pk.nfP(h:Pk D ao len cap zs base Z w0 P x n acts w):¬KF x P:=h.ok.off h.eG (by decide)
theorem Pk.neD(h:Pk D ao len cap zs base Z w0 P x n acts w):P≠D:=by
 obtain⟨a,_,hb⟩:=h.dc.vk
 exact az.ne h.eG hb (by decide)
theorem Pk.cb(h:Pk D ao len cap zs base Z w0 P x n acts w)(hl:0<len)(a:Addr)(e:ao=some a):a.block<w.heap.size:=by
 have:=h.dc.old hl a e
 obtain⟨_,_,hb⟩:=h.dc.vk
 have:=hb.lt
 have:=h.dc.bD
 omega
theorem Pk.nz(h:Pk D ao len cap zs base Z w0 P x n acts w){b:Nat}(hb:w.heap.size<=b):¬Z b:=fun hz=>by
 have:=h.zl b hz
 have:=h.fr.size
 omega
theorem Pk.bG(h:Pk D ao len cap zs base Z w0 P x n acts w)(k:au aP w w'):Pk D ao len cap zs base Z w0 P x n acts w' :=
 ⟨h.ok.aH k,h.kn,h.na,k.aB h.eG (fun x=>x),h.dc.Gj k,h.mD,h.pP,h.zD,h.zl,h.tb,h.fr.trans k.bI⟩
theorem Pk.oQ(h:Pk D ao len cap zs base Z w0 P x n acts w)(hd:Dc D ao len cap zs base w')(k:au (fun x=>x=D) w w'):Pk D ao len cap zs base Z w0 P x n acts w' :=
 ⟨h.ok.aC k (fun b hb e=>h.nfD (by rw[<-e];exact hb)),h.kn,h.na,k.aB h.eG h.neD,hd,h.mD,h.pP,h.zD,h.zl,h.tb,h.fr.trans (k.mono (fun x e=>by rw[e];exact h.zD))⟩
theorem Pk.rt(h:Pk D ao len cap zs base Z w0 P x n acts w):nN w x/\oC w:=⟨h.ok,h.dc.Yr⟩
theorem Pk.other(h:Pk D ao len cap zs base Z w0 P x n acts w){q:Nat}(k:au (fun y=>y=q) w w')(h1:¬KF x q)(h2:q≠P)(h3:q≠D)(h4:0<len->∀a,ao=some a->a.block≠q)(h5:¬Z q):Pk D ao len cap zs base Z w0 P x n acts w' :=
 ⟨h.ok.aC k (fun b hb e=>h1 (by rw[<-e];exact hb)),h.kn,h.na,k.aB h.eG (fun e=>h2 e.symm),h.dc.Gl k (fun e=>h3 e.symm) h4 (fun e=>h5 (by rw[<-e];exact h.tb)),h.mD,h.pP,h.zD,h.zl,h.tb,h.fr.trans (k.mono (fun y e=>by rw[e];exact h5))⟩
theorem Pk.next{Q:Kx->Prop}(h:Pk D ao len cap zs base Z w0 P x n acts w)(hn:KN x w w' Q) :
 ∃x',nN w' x'/\az w' P #[.pointer (some ⟨x.bv,0,none⟩),.int .i64 n,.int .i64 acts] 37/\Dc D ao len cap zs base w'/\(∀b,KF x' b->¬Z b/\(0<len->∀a,ao=some a->a.block≠b))/\au (fun b=>¬Z b) w0 w'/\x'.bv=x.bv/\x'.N<=x.N+1/\(∃Z,x'.V.lg.tp=x.V.lg.tp++Z)/\Q x':=by
 obtain⟨x',ok',k,f,h1,h2,h3,q⟩:=hn
 refine⟨x',ok',k.aB h.eG h.nfP,h.dc.Gl k h.nfD (fun hl a e hf=>(h.mD _ hf).2 hl a e rfl) (fun hf=>(h.mD _ hf).1 h.tb),fun b hb=>?_,h.fr.trans (k.mono (fun b hb=>(h.mD b hb).1)),h1,h2,h3,q⟩
 rcases f b hb with hx|hx
 ·exact h.mD b hx
 ·exact⟨h.nz hx,fun hl a e=>by have:=h.cb hl a e;omega⟩
theorem Pk.count{x':Kx}{n':Nat}{jO:Int}{w1 w2:World}(h:Pk D ao len cap zs base Z w0 P x n acts w)(ok:nN w1 x')(kn:Kn x'.S n')(na:jO=(x'.H.length:Int))(hp:∃a b,az w1 P #[.pointer (some ⟨x'.bv,0,none⟩),a,b] 37)(hd:Dc D ao len cap zs base w1)(hf:∀b,KF x' b->¬Z b/\(0<len->∀a,ao=some a->a.block≠b))(hb:au (fun b=>¬Z b) w0 w1)
 (hp':az w2 P #[.pointer (some ⟨x'.bv,0,none⟩),.int .i64 n',.int .i64 jO] 37) (k:au (fun x=>x=P) w1 w2):Pk D ao len cap zs base Z w0 P x' n' jO w2:=by
 obtain⟨a,b,hpb⟩:=hp
 have nf:¬KF x' P:=ok.off hpb (by decide)
 obtain⟨c,hc,Yh⟩:=hd.vk
 exact⟨ok.aC k (fun b hb e=>nf (by rw[<-e];exact hb)),kn,na,hp',hd.Gl k (fun e=>az.ne Yh hpb (by decide) e) h.pP.2 (fun e=>h.pP.1 (by rw[<-e];exact h.tb)),hf,h.pP,h.zD,h.zl,h.tb,hb.trans (k.mono (fun x e=>by rw[e];exact h.pP.1))⟩
theorem nN.hlen(h:nN w x)(hN:x.N<=1000000):x.H.length<=x.N:=by
 have h1:=h.mem.Y1
 have h2:=h.lu.yK
 have h3:=h.jE.aO.aO.act.len
 have h4:=congrArg List.length h1
 rw[List.length_map,List.length_map]at h4
 omega
end
def wO(x:Kx)(n:Nat)(o:iL)(w:World)(f r c a m E:Int)(w':World):Prop :=
 (E=0/\KN x w w' (fun x'=>(∃nt S',x'.H=x.H++[(nt,S')])/\Kn x'.S (n+1))/\f+r+c=o.aI/\0<=f/\0<=r/\0<=c/\(m=0↔f=0))\/(E=9/\o.kind=3/\au aP w w')\/(E=8/\o.kind=4/\au aP w w')
theorem wO.oJ{x:Kx}{n:Nat}{o:iL}{w w':World}{f r c a m E:Int}(h:wO x n o w f r c a m E w'):au (KF x) w w':=by
 rcases h with⟨_,⟨x',_,k,_⟩,_⟩|⟨_,_,k⟩|⟨_,_,k⟩
 ·exact k
 ·exact k.bI
 ·exact k.bI
theorem Ud{x:Kx}{n i t:Nat}{o:iL}{w:World}(h:nN w x)(hT:oC w)(kn:Kn x.S n)(hN:x.N<200)(hn:n<1000)(hi:i<2)(ht:t<2)(ho:Oy o n i t) :
 Calls Tryz.prog 64 #[.pointer (some ⟨x.bv,0,none⟩),o.val] w fun e w'=>∃f r c a m E,e=.returned (.tuple #[.agg #[.int .i64 f,.int .i64 r,.int .i64 c,.int .i64 a,.int .i64 m],.int .i64 E])/\wO x n o w f r c a m E w':=by
 have hsz:o.sym.size<=100:=by rw[ho.sym];unfold EP;split <;> decide
 have hpr:gW o.af:=nD (by have h7:=ho.af;unfold iQ at h7;split at h7 <;> simp[fH]at h7 <;> omega)
 have hE:rJ x.S o=0\/(rJ x.S o=9/\o.kind=3)\/(rJ x.S o=8/\o.kind=4):=by
  have hr:=h.lu.XU o
  have hid:fH o.id=true:=by rw[ho.id];unfold fH;simp;omega
  have hfree:(x.V.aU o.id).isSome=false:=by
   cases hx:(x.V.aU o.id).isSome
   ·rfl
   ·rw[h.lu.Jn]at hx
    have:=(kn.sK o.id).1 hx
    rw[ho.id]at this
    omega
  have hlist:kN x.S.sy o.sym=true:=by
   rw[ho.sym];unfold EP
   split
   ·exact kn.sA
   ·exact kn.sG
  have hno:decide (200<=x.V.no)=false:=by have:=h.no;have:=h.lu.no;simp;omega
  have h3:nI o.aA=true:=by have:=ho.own;unfold nI;simp;omega
  have h4:lQ o.side=true:=by
   rw[ho.side]
   have:t=0\/t=1:=by omega
   rcases this with rfl|rfl <;> rfl
  have h5:nV o.kind=true:=by have:=ho.kind;unfold nV;simp;omega
  have h6:fH o.aI=true:=by have:=ho.aI;unfold fH;simp;omega
  rw[hr,hfree,hlist,hno]
  rcases nU o false true false (gz x.S.l o).isSome (decide (rG x.S.l o x.S.l.length<o.aI)) with⟨g,e⟩|⟨_,g,e⟩|⟨g1,g2,⟨g,e⟩|⟨_,g,e⟩|⟨g3,g4,⟨g,e⟩|⟨g5,⟨g,e⟩|⟨_,g,e⟩|⟨g6,g7,⟨g,e⟩|⟨_,g,e⟩|⟨g8,g9,e⟩⟩⟩⟩⟩
  ·rw[hid]at g;exact absurd g (by decide)
  ·exact absurd g (by decide)
  ·rw[h3]at g;exact absurd g (by decide)
  ·rw[h4]at g;exact absurd g (by decide)
  ·rw[h5]at g;exact absurd g (by decide)
  ·rw[h6]at g;exact absurd g (by decide)
  ·rw[ho.af]at g;exact absurd g (by decide)
  ·exact absurd g (by decide)
  ·exact absurd g (by decide)
  ·rw[e]
   split
   ·rename_i hh;exact .inr (.inr ⟨rfl,hh.1⟩)
   ·split
    ·rename_i hh;exact .inr (.inl ⟨rfl,hh.1⟩)
    ·exact .inl rfl
 refine (Jz x.bv x.bm x.bo x.N x.V x.p x.S o w h.jE hT h.lu (by omega) h.sz (by omega) (WalkArith.wf_i64 (by rw[ho.id];omega)) (nD (by have:=ho.own;omega)) (nD (by have:=ho.kind;omega)) hpr).mono ?_
 rintro e w' ⟨f,r,c,a,m,rfl,hs,hO⟩
 refine⟨f,r,c,a,m,_,rfl,?_⟩
 rcases hO with⟨hne,k⟩|⟨h0,hA⟩
 ·rcases hE with e|⟨e,hk⟩|⟨e,hk⟩
  ·exact absurd e hne
  ·exact .inr (.inl ⟨e,hk,k⟩)
  ·exact .inr (.inr ⟨e,hk,k⟩)
 ·obtain⟨x',ok',k,hf,q1,q2,q3,q4,q5,q6⟩:=Qe h hA
  refine .inl ⟨h0,⟨x',ok',k,hf,q1,q2,q3,q4,⟨fun id=>?_,by rw[q6,IE,List.append_nil];exact kn.sA,by rw[q6,IE,List.append_nil];exact kn.sG⟩⟩,hs h0⟩
  rw[q5,kn.sK,ho.id]
  push_cast
  omega
def Oi(x x':Kx):Prop:=(x'.H=x.H\/∃nt S',x'.H=x.H++[(nt,S')])/\x'.bv=x.bv/\x'.N<=x.N+1/\∃Z,x'.V.lg.tp=x.V.lg.tp++Z
theorem Oi.refl(x:Kx):Oi x x:=⟨.inl rfl,rfl,by omega,[],by simp⟩
attribute [local go_sem ↓] Go.wp_at_zero Go.wp_at_succ
theorem UE(D:Nat)(ao:Option Addr)(len cap:Nat)(zs:Nat->Int)(base:Nat)(Z:Nat->Prop)(w0:World)(P bv:Nat)(x:Kx)(hbv:x.bv=bv)(n:Nat)(acts:Int)(w:World)(h:Pk D ao len cap zs base Z w0 P x n acts w)(hO:DJ D ao len cap zs base P bv n)(hN:x.N<200)(hn:n<1000) :
 Calls Tryz.prog 36 #[.pointer (some ⟨P,0,none⟩),.pointer (some ⟨D,0,none⟩)] w fun e w'=>e=.returned (.bool true)/\∃x' n' jO,n'<=n+1/\Pk D ao len cap zs base Z w0 P x' n' jO w'/\Oi x x':=by
 have ha:=h.na
 have hHl:=h.ok.hlen (by omega)
 have ha0:0<=acts:=by omega
 have ha2:acts<2000000:=by omega
 have HA:=ai ha
 clear hHl ha
 have hO':=hO w acts h.dc (by rw[<-hbv];exact h.eG)
 have HOr:=ai hO'
 have HH:=ai h
 have lP:=h.eG.lt
 clear hO hO' h
 go_enter Tryz.func36,Tryz.ntmps36
 go_wp2_with fail
 refine (ae HOr).mono ?_
 rintro e w1 ⟨v,rfl,o,rfl,⟨i,t,hi,ht,ho⟩,hd1,k1⟩
 have h1:=(ae HH).oQ hd1 k1
 obtain⟨w2,hw2⟩:∃w2,w2=w1.alloc (.cells (BH o) 52):=⟨_,rfl⟩
 have k2:au aP w1 w2:=by rw[hw2];exact (au.refl aP w1).alloc _
 have b2:az w2 w1.heap.size (BH o) 52:=by rw[hw2];exact az.new _ _ _
 have h2:=h1.bG k2
 have hE:=fun (W:World) (k:au aP w2 W)=>Ud (h2.ok.aH k) (h2.dc.Yr.aH k) h2.kn hN hn hi ht ho
 rw[hbv]at hE
 have nfO:¬KF x w1.heap.size:=fun hf=>absurd (h1.ok.lt hf) (Nat.lt_irrefl _)
 have HZ:Hid (∀W,au (KF x) w2 W->W.cell? ⟨P,0,none⟩=some (.pointer (some ⟨bv,0,none⟩))/\W.cell? ⟨w1.heap.size,0,none⟩=some (.int .i64 o.id)/\W.cell? ⟨w1.heap.size,1,none⟩=some (.int .i64 o.aA)/\W.cell? ⟨w1.heap.size,2,none⟩=some (.string o.sym)/\W.cell? ⟨w1.heap.size,3,none⟩=some (.int .i64 o.side)/\W.cell? ⟨w1.heap.size,4,none⟩=some (.int .i64 o.kind)/\W.cell? ⟨w1.heap.size,5,none⟩=some (.int .i64 o.af)/\W.cell? ⟨w1.heap.size,6,none⟩=some (.int .i64 o.aI)):=by
  intro W k
  have bW:=k.aB b2 nfO
  exact⟨by have:=(k.aB h2.eG h2.nfP).cell 0;rw[hbv]at this;exact this,bW.cell 0,bW.cell 1,bW.cell 2,bW.cell 3,bW.cell 4,bW.cell 5,bW.cell 6⟩
 obtain⟨z0,z1,z2,z3,z4,z5,z6,z7⟩:=ae HZ w2 (au.refl _ w2)
 have H2:=ai h2
 have HB2:=ai b2
 have HNF:=ai nfO
 simp only[iL.val]at hE
 have HE:=ai hE
 have HW2:Hid (w2=w1.alloc (.cells #[.int .i64 o.id,.int .i64 o.aA,.string o.sym,.int .i64 o.side,.int .i64 o.kind,.int .i64 o.af,.int .i64 o.aI] 52)):=hw2
 have ab1:=ho.aI
 have HO:=ai ho
 clear hw2 k2 b2 h2 hE nfO h1 hd1 k1 ho
 simp only[iL.val]
 go_wp2
 rw[<-ae HW2]
 have lt2:w1.heap.size<w2.heap.size:=(ae HB2).lt
 have lP2:P<w2.heap.size:=(ae H2).eG.lt
 have ne1:P≠w2.heap.size:=by omega
 have ne2:w1.heap.size≠w2.heap.size:=by omega
 have aaS:Hid (∀(W W':World),W=(w2.alloc (.cells #[.int .i64 0,.int .i64 0,.int .i64 0,.int .i64 0,.int .i64 0] 87)).drew->au (KF x) W W'->az W' w2.heap.size #[.int .i64 0,.int .i64 0,.int .i64 0,.int .i64 0,.int .i64 0] 87):=by
  rintro W W' rfl k
  exact k.aB (az.new w2 _ _).drew (fun hf=>by have:=(ae H2).ok.lt hf;omega)
 go_region_with (first|(go_at_call 64;refine (ae HE _ (by repeat (first|exact au.refl _ _|refine au.drew ?_|refine au.alloc ?_ _))).mono ?_;rintro e w3 ⟨f,r,c,a,m,E,rfl,hres⟩;have Ui:=hres.oJ;have Uf:au (KF x) w2 w3:=au.trans (by repeat (first|exact au.refl _ _|refine au.drew ?_|refine au.alloc ?_ _)) Ui;obtain⟨y0,y1,y2,y3,y4,y5,y6,y7⟩:=ae HZ w3 Uf;have lt3:w2.heap.size<=w3.heap.size:=Uf.size;have ne3:P≠w3.heap.size:=(by omega);have ne4:w1.heap.size≠w3.heap.size:=(by omega);(try (have rb:=ae aaS _ _ rfl Ui;have rb0:=rb.cell 0;have rb1:=rb.cell 1;have rb2:=rb.cell 2;have rb3:=rb.cell 3;have SG:=rb.cell 4;have rf0:=rb.frozen 0;have rf1:=rb.frozen 1;have rf2:=rb.frozen 2;have rf3:=rb.frozen 3;have rf4:=rb.frozen 4;simp at rb0 rb1 rb2 rb3 SG;have HRB:=ai rb;clear rb));have aaU:=ai hres;have HKA:=ai Uf;have HKR:=ai Ui;clear hres Uf Ui))
 all_goals
  have kW:=ae HKA
  first
   | (obtain⟨w4,RB,hw4,hRB,k34,hnF,hge,SG⟩:∃w4 RB,w4=((((((w3.setCell ⟨w2.heap.size,0,none⟩ (.int .i64 f)).setCell ⟨w2.heap.size,1,none⟩ (.int .i64 r)).setCell ⟨w2.heap.size,2,none⟩ (.int .i64 c)).setCell ⟨w2.heap.size,3,none⟩ (.int .i64 a)).setCell ⟨w2.heap.size,4,none⟩ (.int .i64 m)))/\RB=w2.heap.size/\au (fun x=>x=RB) w3 w4/\(∀x2,nN w3 x2->¬KF x2 RB)/\w2.heap.size<=RB/\az w4 RB #[.int .i64 f,.int .i64 r,.int .i64 c,.int .i64 a,.int .i64 m] 87:=⟨_,_,rfl,rfl,((((((au.refl (fun x=>x=w2.heap.size) w3).setCell (p:=⟨w2.heap.size,0,none⟩) (.inl rfl) _).setCell (p:=⟨w2.heap.size,1,none⟩) (.inl rfl) _).setCell (p:=⟨w2.heap.size,2,none⟩) (.inl rfl) _).setCell (p:=⟨w2.heap.size,3,none⟩) (.inl rfl) _).setCell (p:=⟨w2.heap.size,4,none⟩) (.inl rfl) _),(fun x2 h2=>h2.off (ae HRB) (by decide)),Nat.le_refl _,((((((ae HRB).set 0 _).set 1 _).set 2 _).set 3 _).set 4 _)⟩;rw[<-hw4,<-hRB])
   | (obtain⟨w4,RB,hw4,hRB,k34,hnF,hge,SG⟩:∃w4 RB,w4=(w3.alloc (.cells #[.int .i64 f,.int .i64 r,.int .i64 c,.int .i64 a,.int .i64 m] 87))/\RB=w3.heap.size/\au (fun x=>x=RB) w3 w4/\(∀x2,nN w3 x2->¬KF x2 RB)/\w2.heap.size<=RB/\az w4 RB #[.int .i64 f,.int .i64 r,.int .i64 c,.int .i64 a,.int .i64 m] 87:=⟨_,_,rfl,rfl,((au.refl _ w3).alloc _),(fun x2 h2 hf=>absurd (h2.lt hf) (Nat.lt_irrefl _)),lt3,(az.new w3 _ _)⟩;rw[<-hw4,<-hRB])
  clear hw4 hRB
  have kF:au (KF x) w2 w3:=ae HKA
  have nS:∀{x c t},az w2 x c t->x≠RB:=fun hb e=>by have:=hb.lt;omega
  have VO:az w4 P #[.pointer (some ⟨x.bv,0,none⟩),.int .i64 n,.int .i64 acts] 37:=k34.aB (kF.aB (ae H2).eG (ae H2).nfP) (nS (ae H2).eG)
  have ob4:az w4 w1.heap.size (BH o) 52:=k34.aB (kF.aB (ae HB2) (ae HNF)) (nS (ae HB2))
  have ZJ:P≠RB:=az.ne VO SG (by decide)
  have p1:w4.cell? ⟨P,1,none⟩=some (.int .i64 (n:Int)):=VO.cell 1
  have p2:w4.cell? ⟨P,2,none⟩=some (.int .i64 acts):=VO.cell 2
  have g1:=VO.frozen 1
  have g2:=VO.frozen 2
  have r0:w4.cell? ⟨RB,0,none⟩=some (.int .i64 f):=SG.cell 0
  have r1:w4.cell? ⟨RB,1,none⟩=some (.int .i64 r):=SG.cell 1
  have r2:w4.cell? ⟨RB,2,none⟩=some (.int .i64 c):=SG.cell 2
  have r4:w4.cell? ⟨RB,4,none⟩=some (.int .i64 m):=SG.cell 4
  have o6:w4.cell? ⟨w1.heap.size,6,none⟩=some (.int .i64 o.aI):=ob4.cell 6
  have o4:w4.cell? ⟨w1.heap.size,4,none⟩=some (.int .i64 o.kind):=ob4.cell 4
  have abZ:P≠w1.heap.size:=az.ne VO ob4 (by decide)
  have Su:=ai VO
  have hbase:¬Z RB:=(ae H2).nz hge
  have hDR:D≠RB:=by obtain⟨a',_,Yh⟩:=(ae H2).dc.vk;exact nS Yh
  have HCR:Hid (0<len->∀a,ao=some a->a.block≠RB):=fun hl a e=>by have:=(ae H2).cb hl a e;omega
  have S9:=ai hnF
  have SX:=ai k34
  clear z0 z1 z2 z3 z4 z5 z6 z7 y0 y1 y2 y3 y4 y5 y6 y7 VO ob4 SG k34 kF nS kW hnF
  try clear rb0 rb1 rb2 rb3 SG rf0 rf1 rf2 rf3 rf4
  rcases ae aaU with⟨rfl,hnx,hsum,hf0,hr0,hc0,hmf⟩|⟨rfl,hk,kn⟩|⟨rfl,hk,kn⟩
  ·have YI:=ai hnx
   clear hnx
   have e1:(f+r+c == o.aI)=true:=by simp[hsum]
   have hf9:f<=9:=by omega
   have hr9:r<=9:=by omega
   have hc9:c<=9:=by omega
   have e2:decide (0<=f)=true:=by simp[hf0]
   have e3:decide (0<=r)=true:=by simp[hr0]
   have e4:decide (0<=c)=true:=by simp[hc0]
   have HS:=ai hsum
   clear hsum
   by_cases hfz:f=0
   ·have em:(m == 0)=true:=by simp[hmf.2 hfz]
    have ef:(f == 0)=true:=by simp[hfz]
    clear hmf hfz
    go_wp2
    go_ret
    obtain⟨x2,ok2,pM,wK,wL,wJ,eb,eN,eZ,⟨nt,S',eH⟩,wM⟩:=((ae H2).bG (by repeat (first|exact au.refl _ _|refine au.drew ?_|refine au.alloc ?_ _))).next (ae YI)
    have k34:=ae SX
    refine⟨rfl,x2,n+1,acts+1,Nat.le_refl _,?_,.inr ⟨nt,S',eH⟩,eb,eN,eZ⟩
    refine Pk.count (ae H2) (w1:=w4) (ok2.aC k34 (fun b hb e=>ae S9 x2 ok2 (by rw[<-e];exact hb))) wM (by rw[eH,List.length_append,ae HA];push_cast;rfl) ⟨_,_,by rw[eb];exact ae Su⟩ (wK.Gl k34 hDR (ae HCR) (fun e=>hbase (by rw[<-e];exact (ae H2).tb))) wL (wJ.trans (k34.mono (fun x e=>by rw[e];exact hbase))) ?_ (((au.refl (fun x=>x=P) w4).setCell (p:=⟨P,1,none⟩) (.inl rfl) _).setCell (p:=⟨P,2,none⟩) (.inl rfl) _)
    have:=((ae Su).set 1 (.int .i64 ((n:Int)+1))).set 2 (.int .i64 (acts+1))
    rw[eb]
    push_cast
    exact this
   ·have em:(m == 0)=false:=by simp;exact fun h=>hfz (hmf.1 h)
    have ef:(f == 0)=false:=by simp[hfz]
    clear hmf hfz
    go_wp2
    go_ret
    obtain⟨x2,ok2,pM,wK,wL,wJ,eb,eN,eZ,⟨nt,S',eH⟩,wM⟩:=((ae H2).bG (by repeat (first|exact au.refl _ _|refine au.drew ?_|refine au.alloc ?_ _))).next (ae YI)
    have k34:=ae SX
    refine⟨rfl,x2,n+1,acts+1,Nat.le_refl _,?_,.inr ⟨nt,S',eH⟩,eb,eN,eZ⟩
    refine Pk.count (ae H2) (w1:=w4) (ok2.aC k34 (fun b hb e=>ae S9 x2 ok2 (by rw[<-e];exact hb))) wM (by rw[eH,List.length_append,ae HA];push_cast;rfl) ⟨_,_,by rw[eb];exact ae Su⟩ (wK.Gl k34 hDR (ae HCR) (fun e=>hbase (by rw[<-e];exact (ae H2).tb))) wL (wJ.trans (k34.mono (fun x e=>by rw[e];exact hbase))) ?_ (((au.refl (fun x=>x=P) w4).setCell (p:=⟨P,1,none⟩) (.inl rfl) _).setCell (p:=⟨P,2,none⟩) (.inl rfl) _)
    have:=((ae Su).set 1 (.int .i64 ((n:Int)+1))).set 2 (.int .i64 (acts+1))
    rw[eb]
    push_cast
    exact this
  ·have ek:(o.kind == 3)=true:=by simp[hk]
   clear hk
   go_wp2
   go_ret
   have k34:=ae SX
   have h3:=((ae H2).bG (by repeat (first|exact au.refl _ _|refine au.drew ?_|refine au.alloc ?_ _))).bG kn
   have h4:=h3.other k34 (ae S9 x h3.ok) (fun e=>ZJ e.symm) (fun e=>hDR e.symm) (ae HCR) hbase
   exact⟨rfl,x,n,acts,by omega,h4,Oi.refl x⟩
  ·have ek:(o.kind == 4)=true:=by simp[hk]
   clear hk
   go_wp2
   go_ret
   have k34:=ae SX
   have h3:=((ae H2).bG (by repeat (first|exact au.refl _ _|refine au.drew ?_|refine au.alloc ?_ _))).bG kn
   have h4:=h3.other k34 (ae S9 x h3.ok) (fun e=>ZJ e.symm) (fun e=>hDR e.symm) (ae HCR) hbase
   exact⟨rfl,x,n,acts,by omega,h4,Oi.refl x⟩
theorem Lt(tmps:Array Value)(H:Nat)(w:World)(o:iL)(ht:tmps.getD 4 undef=.pointer (some ⟨H,0,none⟩))(hb:az w H (BH o) 52) :
 (results Tryz.f63 tmps).run Tryz.prog w=.ok o.val w:=by
 have c0:w.cell? ⟨H,0,none⟩=some (.int .i64 o.id):=hb.cell 0
 have c1:w.cell? ⟨H,1,none⟩=some (.int .i64 o.aA):=hb.cell 1
 have c2:w.cell? ⟨H,2,none⟩=some (.string o.sym):=hb.cell 2
 have c3:w.cell? ⟨H,3,none⟩=some (.int .i64 o.side):=hb.cell 3
 have c4:w.cell? ⟨H,4,none⟩=some (.int .i64 o.kind):=hb.cell 4
 have c5:w.cell? ⟨H,5,none⟩=some (.int .i64 o.af):=hb.cell 5
 have c6:w.cell? ⟨H,6,none⟩=some (.int .i64 o.aI):=hb.cell 6
 simp only[Array.getD_eq_getD_getElem?]at ht
 simp[results,Tryz.results63,go_sem,ht,c0,c1,c2,c3,c4,c5,c6,iL.val]
structure bM(D:Nat)(ao:Option Addr)(len cap:Nat)(zs:Nat->Int)(base P bv n:Nat)(acts:Int)(w W:World):Prop where
 dc:Dc D ao len cap zs base W
 eG:az W P #[.pointer (some ⟨bv,0,none⟩),.int .i64 n,.int .i64 acts] 37
 res:az W w.heap.size #[.int .i64 0,.int .i64 0,.string ⟨#[]⟩,.int .i64 0,.int .i64 0,.int .i64 0,.int .i64 0] 52
 oJ:au (fun x=>x=D) w W
 cell:W.cell? ⟨P,1,none⟩=some (.int .i64 n)
 dw:D<w.heap.size
section
variable {D : Nat} {ao : Option Addr} {len cap : Nat} {zs : Nat -> Int} {base P bv n : Nat} {acts : Int} {w W : World}
theorem bM.alloc(h:bM D ao len cap zs base P bv n acts w W)(o:Obj):bM D ao len cap zs base P bv n acts w (W.alloc o) :=
 ⟨h.dc.Gj ((au.refl aP W).alloc _),h.eG.alloc _,h.res.alloc _,h.oJ.alloc _,(h.eG.alloc _).cell 1,h.dw⟩
theorem bM.drew(h:bM D ao len cap zs base P bv n acts w W):bM D ao len cap zs base P bv n acts w W.drew :=
 ⟨h.dc.Gj (au.refl aP W).drew,h.eG.drew,h.res.drew,h.oJ.drew,h.cell,h.dw⟩
end
structure bC(D:Nat)(W:World)(b:Nat):Prop where
 cells:∀j,j<9->W.cell? ⟨b,j,none⟩=some (.int .i64 (fC j))
 ne:b≠D
 lt:b<W.heap.size
theorem bC.new{D:Nat}{ao:Option Addr}{len cap:Nat}{zs:Nat->Int}{base P bv n:Nat}{acts:Int}{w W:World}(h:bM D ao len cap zs base P bv n acts w W):bC D (W.alloc (.cells #[.int .i64 0,.int .i64 0,.int .i64 0,.int .i64 0,.int .i64 1,.int .i64 2,.int .i64 3,.int .i64 4,.int .i64 5] 3)) W.heap.size:=by
 obtain⟨a,ha,hb⟩:=h.dc.vk
 have:=hb.lt
 exact⟨fun j hj=>(az.cell (az.new W _ _) j).trans (Nl hj),by omega,(az.new W _ _).lt⟩
theorem bC.alloc{D:Nat}{W:World}{b:Nat}(h:bC D W b)(o:Obj):bC D (W.alloc o) b :=
 ⟨fun j hj=>((au.refl aP W).alloc o).cell (h.cells j hj) (fun x=>x),h.ne,by have:=h.lt;simp;omega⟩
theorem bC.bG{D:Nat}{W w':World}{b:Nat}(h:bC D W b)(k:au (fun x=>x=D) W w'):bC D w' b :=
 ⟨fun j hj=>k.cell (h.cells j hj) h.ne,h.ne,Nat.lt_of_lt_of_le h.lt k.size⟩
structure bf(D:Nat)(w W:World)(b:Nat):Prop where
 aB:az W b #[.int .i64 0,.int .i64 0,.string ⟨#[]⟩,.int .i64 0,.int .i64 0,.int .i64 0,.int .i64 0] 52
 ne:b≠D
 new:w.heap.size<b
theorem bf.make{D:Nat}{ao:Option Addr}{len cap:Nat}{zs:Nat->Int}{base P bv n:Nat}{acts:Int}{w W:World}(h:bM D ao len cap zs base P bv n acts w W):bf D w (W.alloc (.cells #[.int .i64 0,.int .i64 0,.string ⟨#[]⟩,.int .i64 0,.int .i64 0,.int .i64 0,.int .i64 0] 52)) W.heap.size:=by
 obtain⟨a,ha,hb⟩:=h.dc.vk
 have:=hb.lt
 have:=h.res.lt
 exact⟨az.new W _ _,by omega,by omega⟩
theorem bf.alloc{D:Nat}{w W:World}{b:Nat}(h:bf D w W b)(o:Obj):bf D w (W.alloc o) b:=⟨h.aB.alloc _,h.ne,h.new⟩
theorem bf.bG{D:Nat}{w W w':World}{b:Nat}(h:bf D w W b)(k:au (fun x=>x=D) W w'):bf D w w' b:=⟨k.aB h.aB h.ne,h.ne,h.new⟩
theorem bf.cells{D:Nat}{w W:World}{b:Nat}(h:bf D w W b):(W.cell? ⟨b,0,none⟩=some (.int .i64 0)/\W.cell? ⟨b,1,none⟩=some (.int .i64 0)/\W.cell? ⟨b,2,none⟩=some (.string ⟨#[]⟩)/\W.cell? ⟨b,3,none⟩=some (.int .i64 0)/\W.cell? ⟨b,4,none⟩=some (.int .i64 0)/\W.cell? ⟨b,5,none⟩=some (.int .i64 0)/\W.cell? ⟨b,6,none⟩=some (.int .i64 0)) /\
 (W.frozen? ⟨b,0,none⟩=false/\W.frozen? ⟨b,1,none⟩=false/\W.frozen? ⟨b,2,none⟩=false/\W.frozen? ⟨b,3,none⟩=false/\W.frozen? ⟨b,4,none⟩=false/\W.frozen? ⟨b,5,none⟩=false/\W.frozen? ⟨b,6,none⟩=false)/\b<W.heap.size :=
 ⟨⟨h.aB.cell 0,h.aB.cell 1,h.aB.cell 2,h.aB.cell 3,h.aB.cell 4,h.aB.cell 5,h.aB.cell 6⟩,⟨h.aB.frozen 0,h.aB.frozen 1,h.aB.frozen 2,h.aB.frozen 3,h.aB.frozen 4,h.aB.frozen 5,h.aB.frozen 6⟩,h.aB.lt⟩
theorem aY(D:Nat)(ao:Option Addr)(len cap:Nat)(zs:Nat->Int)(base P bv n:Nat)(acts:Int)(w W:World)(m:Int)(h:bM D ao len cap zs base P bv n acts w W)(h1:0<m)(h2:m<=1000000) :
 Calls Tryz.prog 35 #[.pointer (some ⟨D,0,none⟩),.int .i64 m] W fun e w'=>∃v:Nat,e=.returned (.int .i64 (v:Int))/\(v:Int)<m/\bM D ao len cap zs base P bv n acts w w'/\au (fun x=>x=D) W w':=by
 refine (Ew D ao len cap zs base m W h.dc h1 h2).mono ?_
 rintro e w' ⟨v,rfl,hv,hd,k⟩
 obtain⟨a,ha,hb⟩:=h.dc.vk
 have hp:=k.aB h.eG (az.ne h.eG hb (by decide))
 exact⟨v,rfl,hv,⟨hd,hp,k.aB h.res (az.ne h.res hb (by decide)),h.oJ.trans k,hp.cell 1,h.dw⟩,k⟩
noncomputable def ay:Array Oper:=match Tryz.f63.body with|some (.seq _ (.seq (.region _ ops _) _))=>ops|_=>#[]
theorem bM.set{D:Nat}{ao:Option Addr}{len cap:Nat}{zs:Nat->Int}{base P bv n:Nat}{acts:Int}{w W:World}(h:bM D ao len cap zs base P bv n acts w W){b:Nat}{c:Array Value}(hb:az W b c 52)(hbw:w.heap.size<b)(i:Nat)(u:Value):bM D ao len cap zs base P bv n acts w (W.setCell ⟨b,i,none⟩ u)/\az (W.setCell ⟨b,i,none⟩ u) b (c.setIfInBounds i u) 52:=by
 obtain⟨a,ha,hd⟩:=h.dc.vk
 have k:au (fun x=>x=b) W (W.setCell ⟨b,i,none⟩ u):=(au.refl (fun x=>x=b) W).setCell (p:=⟨b,i,none⟩) (.inl rfl) u
 have hp:=k.aB h.eG (fun e=>az.ne h.eG hb (by decide) e)
 refine⟨⟨h.dc.bG k (fun e=>az.ne hd hb (by decide) e) (fun x e=>?_),hp,k.aB h.res (by omega),h.oJ.setCell (p:=⟨b,i,none⟩) (.inr (by show w.heap.size<=b;omega)) u,hp.cell 1,h.dw⟩,hb.set i u⟩
 have:=h.dc.bD
 have:=h.dw
 omega
theorem Ha{D:Nat}{ao:Option Addr}{len cap:Nat}{zs:Nat->Int}{base P bv n:Nat}{acts:Int}{w W:World}{b:Nat}{a0 a1 a2 a3 a4 a5 a6:Value}(h:bM D ao len cap zs base P bv n acts w W)(hO:bf D w W b) :
 bM D ao len cap zs base P bv n acts w (((((((W.setCell ⟨b,0,none⟩ a0).setCell ⟨b,1,none⟩ a1).setCell ⟨b,2,none⟩ a2).setCell ⟨b,3,none⟩ a3).setCell ⟨b,4,none⟩ a4).setCell ⟨b,5,none⟩ a5).setCell ⟨b,6,none⟩ a6)/\az (((((((W.setCell ⟨b,0,none⟩ a0).setCell ⟨b,1,none⟩ a1).setCell ⟨b,2,none⟩ a2).setCell ⟨b,3,none⟩ a3).setCell ⟨b,4,none⟩ a4).setCell ⟨b,5,none⟩ a5).setCell ⟨b,6,none⟩ a6) b #[a0,a1,a2,a3,a4,a5,a6] 52:=by
 obtain⟨r0,b0⟩:=h.set hO.aB hO.new 0 a0
 obtain⟨r1,b1⟩:=r0.set b0 hO.new 1 a1
 obtain⟨r2,b2⟩:=r1.set b1 hO.new 2 a2
 obtain⟨r3,b3⟩:=r2.set b2 hO.new 3 a3
 obtain⟨r4,b4⟩:=r3.set b3 hO.new 4 a4
 obtain⟨r5,b5⟩:=r4.set b4 hO.new 5 a5
 obtain⟨r6,b6⟩:=r5.set b5 hO.new 6 a6
 exact⟨r6,b6⟩
def dB(D:Nat)(ao:Option Addr)(len cap:Nat)(zs:Nat->Int)(base P bv n:Nat)(acts:Int)(w:World)(Q:Exit->Act->World->Prop):Prop :=
 (∀(v1 v2 v3 v4 v5 Bs Bo:Nat) (W:World),(v1:Int)<4->(v2:Int)<2->(v3:Int)<9->(v4:Int)<10->(v5:Int)<9->bM D ao len cap zs base P bv n acts w W->Bo≠D->w.heap.size<Bo ->
   az W Bo #[.int .i64 (IntKind.i64.wrap ((n:Int)+1)),.int .i64 (v1:Int),.string ⟨#[65]⟩,.int .i64 (v2:Int),.int .i64 (fC v3),.int .i64 (IntKind.i64.wrap (95+(v4:Int))),.int .i64 (IntKind.i64.wrap (1+(v5:Int)))] 52 ->
   Q .normal ⟨((.pointer (some ⟨P,0,none⟩)) :: (.pointer (some ⟨D,0,none⟩)) :: (undef) :: (undef) :: (.pointer (some ⟨w.heap.size,0,none⟩)) :: (.pointer (some ⟨Bo,0,none⟩)) :: (.pointer (some ⟨P,0,none⟩)) :: (.pointer (some ⟨P,0,none⟩)) :: (.pointer (some ⟨P,1,none⟩)) :: (.int .i64 (n:Int)) :: (.int .i64 (IntKind.i64.wrap ((n:Int)+1))) :: (.pointer (some ⟨D,0,none⟩)) :: (.int .i64 (v1:Int)) :: (.pointer (some ⟨D,0,none⟩)) :: (.int .i64 (v2:Int)) :: (.slice (some ⟨Bs,0,none⟩) 9 9) :: (.pointer (some ⟨D,0,none⟩)) :: (.int .i64 (v3:Int)) :: (.pointer (some ⟨Bs,v3,none⟩)) :: (.int .i64 (fC v3)) :: (.pointer (some ⟨D,0,none⟩)) :: (.int .i64 (v4:Int)) :: (.int .i64 (IntKind.i64.wrap (95+(v4:Int)))) :: (.pointer (some ⟨D,0,none⟩)) :: (.int .i64 (v5:Int)) :: (.int .i64 (IntKind.i64.wrap (1+(v5:Int)))) :: (.agg #[.int .i64 (IntKind.i64.wrap ((n:Int)+1)),.int .i64 (v1:Int),.string ⟨#[65]⟩,.int .i64 (v2:Int),.int .i64 (fC v3),.int .i64 (IntKind.i64.wrap (95+(v4:Int))),.int .i64 (IntKind.i64.wrap (1+(v5:Int)))]) :: (undef) :: (undef) :: (undef) :: (undef) :: (undef) :: (undef) :: (undef) :: (undef) :: (undef) :: []).toArray,[]⟩ W)/\∀x (a:Act) d v W,Q (.panic x) (a.put d v) W->Q (.panic x) a W
set_option maxRecDepth 100000
set_option maxHeartbeats 4000000
theorem wB(D:Nat)(ao:Option Addr)(len cap:Nat)(zs:Nat->Int)(base P bv n:Nat)(acts:Int)(w:World)(Q:Exit->Act->World->Prop)(HQ:dB D ao len cap zs base P bv n acts w Q)(v1 v2 v3 v4 v5:Nat)(Bs:Nat)(Bo:Nat)(W:World)(hR:bM D ao len cap zs base P bv n acts w W)(hv1:(v1:Int)<4)(hv2:(v2:Int)<2)(hv3:(v3:Int)<9)(hv4:(v4:Int)<10)(hv5:(v5:Int)<9)(hN:bC D W Bs)(hO:bf D w W Bo) :
 wpAny Tryz.prog .any ay Q 1 #[true,true,true,true,true,true,true,true,true,true,true,true,true,true,true,true,true,true,true,true,true,true,false] ⟨((.pointer (some ⟨P,0,none⟩)) :: (.pointer (some ⟨D,0,none⟩)) :: (undef) :: (undef) :: (.pointer (some ⟨w.heap.size,0,none⟩)) :: (.pointer (some ⟨Bo,0,none⟩)) :: (.pointer (some ⟨P,0,none⟩)) :: (.pointer (some ⟨P,0,none⟩)) :: (.pointer (some ⟨P,1,none⟩)) :: (.int .i64 (n:Int)) :: (.int .i64 (IntKind.i64.wrap ((n:Int)+1))) :: (.pointer (some ⟨D,0,none⟩)) :: (.int .i64 (v1:Int)) :: (.pointer (some ⟨D,0,none⟩)) :: (.int .i64 (v2:Int)) :: (.slice (some ⟨Bs,0,none⟩) 9 9) :: (.pointer (some ⟨D,0,none⟩)) :: (.int .i64 (v3:Int)) :: (.pointer (some ⟨Bs,v3,none⟩)) :: (.int .i64 (fC v3)) :: (.pointer (some ⟨D,0,none⟩)) :: (.int .i64 (v4:Int)) :: (.int .i64 (IntKind.i64.wrap (95+(v4:Int)))) :: (.pointer (some ⟨D,0,none⟩)) :: (.int .i64 (v5:Int)) :: (.int .i64 (IntKind.i64.wrap (1+(v5:Int)))) :: (.agg #[.int .i64 (IntKind.i64.wrap ((n:Int)+1)),.int .i64 (v1:Int),.string ⟨#[65]⟩,.int .i64 (v2:Int),.int .i64 (fC v3),.int .i64 (IntKind.i64.wrap (95+(v4:Int))),.int .i64 (IntKind.i64.wrap (1+(v5:Int)))]) :: (undef) :: (undef) :: (undef) :: (undef) :: (undef) :: (undef) :: (undef) :: (undef) :: (undef) :: []).toArray,[]⟩ W:=by
 have hcell:=hR.cell
 have hlt:=hR.eG.lt
 have hcv:=hN.cells v3 (by omega)
 have hNl:=hN.lt
 have ja:v3<9:=by omega
 refine wpAny_ready (rs:=[22]) (by kernel_rfl) (by simp) ?_
 refine AllReady.cons rfl (fun K hK=>?_) ?_
 ·obtain⟨⟨q0,q1,q2,q3,q4,q5,q6⟩,⟨g0,g1,g2,g3,g4,g5,g6⟩,ql⟩:=hO.cells
  simp only[ay,Tryz.f63]
  go_simp
  refine hK _ _ ?_
  refine wpAny_done (by kernel_rfl) ?_ _
  exact HQ.1 v1 v2 v3 v4 v5 Bs Bo _ hv1 hv2 hv3 hv4 hv5 (Ha hR hO).1 hO.ne hO.new (Ha hR hO).2
 exact AllReady.nil
theorem Bg(D:Nat)(ao:Option Addr)(len cap:Nat)(zs:Nat->Int)(base P bv n:Nat)(acts:Int)(w:World)(Q:Exit->Act->World->Prop)(HQ:dB D ao len cap zs base P bv n acts w Q)(v1 v2 v3 v4 v5:Nat)(Bs:Nat)(W:World)(hR:bM D ao len cap zs base P bv n acts w W)(hv1:(v1:Int)<4)(hv2:(v2:Int)<2)(hv3:(v3:Int)<9)(hv4:(v4:Int)<10)(hv5:(v5:Int)<9)(hN:bC D W Bs) :
 wpAny Tryz.prog .any ay Q 2 #[true,true,true,true,true,true,true,true,true,true,true,true,true,true,true,true,true,true,true,true,true,false,false] ⟨((.pointer (some ⟨P,0,none⟩)) :: (.pointer (some ⟨D,0,none⟩)) :: (undef) :: (undef) :: (.pointer (some ⟨w.heap.size,0,none⟩)) :: (undef) :: (.pointer (some ⟨P,0,none⟩)) :: (.pointer (some ⟨P,0,none⟩)) :: (.pointer (some ⟨P,1,none⟩)) :: (.int .i64 (n:Int)) :: (.int .i64 (IntKind.i64.wrap ((n:Int)+1))) :: (.pointer (some ⟨D,0,none⟩)) :: (.int .i64 (v1:Int)) :: (.pointer (some ⟨D,0,none⟩)) :: (.int .i64 (v2:Int)) :: (.slice (some ⟨Bs,0,none⟩) 9 9) :: (.pointer (some ⟨D,0,none⟩)) :: (.int .i64 (v3:Int)) :: (.pointer (some ⟨Bs,v3,none⟩)) :: (.int .i64 (fC v3)) :: (.pointer (some ⟨D,0,none⟩)) :: (.int .i64 (v4:Int)) :: (.int .i64 (IntKind.i64.wrap (95+(v4:Int)))) :: (.pointer (some ⟨D,0,none⟩)) :: (.int .i64 (v5:Int)) :: (.int .i64 (IntKind.i64.wrap (1+(v5:Int)))) :: (.agg #[.int .i64 (IntKind.i64.wrap ((n:Int)+1)),.int .i64 (v1:Int),.string ⟨#[65]⟩,.int .i64 (v2:Int),.int .i64 (fC v3),.int .i64 (IntKind.i64.wrap (95+(v4:Int))),.int .i64 (IntKind.i64.wrap (1+(v5:Int)))]) :: (undef) :: (undef) :: (undef) :: (undef) :: (undef) :: (undef) :: (undef) :: (undef) :: (undef) :: []).toArray,[]⟩ W:=by
 have hcell:=hR.cell
 have hlt:=hR.eG.lt
 have hcv:=hN.cells v3 (by omega)
 have hNl:=hN.lt
 have ja:v3<9:=by omega
 refine wpAny_ready (rs:=[21]) (by kernel_rfl) (by simp) ?_
 refine AllReady.cons rfl (fun K hK=>?_) ?_
 ·simp only[ay,Tryz.f63]
  go_simp
  refine hK _ _ ?_
  exact wB D ao len cap zs base P bv n acts w Q HQ v1 v2 v3 v4 v5 Bs _ _ (hR.alloc _) hv1 hv2 hv3 hv4 hv5 (hN.alloc _) (bf.make hR)
 exact AllReady.nil
theorem vZ(D:Nat)(ao:Option Addr)(len cap:Nat)(zs:Nat->Int)(base P bv n:Nat)(acts:Int)(w:World)(Q:Exit->Act->World->Prop)(HQ:dB D ao len cap zs base P bv n acts w Q)(v1 v2 v3 v4 v5:Nat)(Bs:Nat)(Bo:Nat)(W:World)(hR:bM D ao len cap zs base P bv n acts w W)(hv1:(v1:Int)<4)(hv2:(v2:Int)<2)(hv3:(v3:Int)<9)(hv4:(v4:Int)<10)(hv5:(v5:Int)<9)(hN:bC D W Bs)(hO:bf D w W Bo) :
 wpAny Tryz.prog .any ay Q 3 #[true,true,true,true,true,true,true,true,true,true,true,true,true,false,true,true,true,true,true,true,false,true,false] ⟨((.pointer (some ⟨P,0,none⟩)) :: (.pointer (some ⟨D,0,none⟩)) :: (undef) :: (undef) :: (.pointer (some ⟨w.heap.size,0,none⟩)) :: (.pointer (some ⟨Bo,0,none⟩)) :: (.pointer (some ⟨P,0,none⟩)) :: (.pointer (some ⟨P,0,none⟩)) :: (.pointer (some ⟨P,1,none⟩)) :: (.int .i64 (n:Int)) :: (.int .i64 (IntKind.i64.wrap ((n:Int)+1))) :: (.pointer (some ⟨D,0,none⟩)) :: (.int .i64 (v1:Int)) :: (.pointer (some ⟨D,0,none⟩)) :: (.int .i64 (v2:Int)) :: (.slice (some ⟨Bs,0,none⟩) 9 9) :: (.pointer (some ⟨D,0,none⟩)) :: (.int .i64 (v3:Int)) :: (.pointer (some ⟨Bs,v3,none⟩)) :: (undef) :: (.pointer (some ⟨D,0,none⟩)) :: (.int .i64 (v4:Int)) :: (.int .i64 (IntKind.i64.wrap (95+(v4:Int)))) :: (.pointer (some ⟨D,0,none⟩)) :: (.int .i64 (v5:Int)) :: (.int .i64 (IntKind.i64.wrap (1+(v5:Int)))) :: (undef) :: (undef) :: (undef) :: (undef) :: (undef) :: (undef) :: (undef) :: (undef) :: (undef) :: (undef) :: []).toArray,[]⟩ W:=by
 have hcell:=hR.cell
 have hlt:=hR.eG.lt
 have hcv:=hN.cells v3 (by omega)
 have hNl:=hN.lt
 have ja:v3<9:=by omega
 refine wpAny_ready (rs:=[13]) (by kernel_rfl) (by simp) ?_
 refine AllReady.cons rfl (fun K hK=>?_) ?_
 ·simp only[ay,Tryz.f63]
  go_simp
  refine hK _ _ ?_
  refine wpAny_take (i:=20) (v:=.agg #[.int .i64 (IntKind.i64.wrap ((n:Int)+1)),.int .i64 (v1:Int),.string ⟨#[65]⟩,.int .i64 (v2:Int),.int .i64 (fC v3),.int .i64 (IntKind.i64.wrap (95+(v4:Int))),.int .i64 (IntKind.i64.wrap (1+(v5:Int)))]) rfl (by kernel_rfl) (by kernel_rfl) (by kernel_rfl) (fun _ _ _ h=>HQ.2 _ _ _ _ _ h) (Or.inl ⟨by rfl,fun w=>by simp only[ay,Tryz.f63];go_simp⟩) ?_
  exact wB D ao len cap zs base P bv n acts w Q HQ v1 v2 v3 v4 v5 Bs Bo _ hR hv1 hv2 hv3 hv4 hv5 hN hO
 exact AllReady.nil
theorem Bf(D:Nat)(ao:Option Addr)(len cap:Nat)(zs:Nat->Int)(base P bv n:Nat)(acts:Int)(w:World)(Q:Exit->Act->World->Prop)(HQ:dB D ao len cap zs base P bv n acts w Q)(v1 v2 v3 v4 v5:Nat)(Bs:Nat)(W:World)(hR:bM D ao len cap zs base P bv n acts w W)(hv1:(v1:Int)<4)(hv2:(v2:Int)<2)(hv3:(v3:Int)<9)(hv4:(v4:Int)<10)(hv5:(v5:Int)<9)(hN:bC D W Bs) :
 wpAny Tryz.prog .any ay Q 4 #[true,true,true,true,true,true,true,true,true,true,true,true,true,false,true,true,true,true,true,true,false,false,false] ⟨((.pointer (some ⟨P,0,none⟩)) :: (.pointer (some ⟨D,0,none⟩)) :: (undef) :: (undef) :: (.pointer (some ⟨w.heap.size,0,none⟩)) :: (undef) :: (.pointer (some ⟨P,0,none⟩)) :: (.pointer (some ⟨P,0,none⟩)) :: (.pointer (some ⟨P,1,none⟩)) :: (.int .i64 (n:Int)) :: (.int .i64 (IntKind.i64.wrap ((n:Int)+1))) :: (.pointer (some ⟨D,0,none⟩)) :: (.int .i64 (v1:Int)) :: (.pointer (some ⟨D,0,none⟩)) :: (.int .i64 (v2:Int)) :: (.slice (some ⟨Bs,0,none⟩) 9 9) :: (.pointer (some ⟨D,0,none⟩)) :: (.int .i64 (v3:Int)) :: (.pointer (some ⟨Bs,v3,none⟩)) :: (undef) :: (.pointer (some ⟨D,0,none⟩)) :: (.int .i64 (v4:Int)) :: (.int .i64 (IntKind.i64.wrap (95+(v4:Int)))) :: (.pointer (some ⟨D,0,none⟩)) :: (.int .i64 (v5:Int)) :: (.int .i64 (IntKind.i64.wrap (1+(v5:Int)))) :: (undef) :: (undef) :: (undef) :: (undef) :: (undef) :: (undef) :: (undef) :: (undef) :: (undef) :: (undef) :: []).toArray,[]⟩ W:=by
 have hcell:=hR.cell
 have hlt:=hR.eG.lt
 have hcv:=hN.cells v3 (by omega)
 have hNl:=hN.lt
 have ja:v3<9:=by omega
 refine wpAny_ready (rs:=[13,21]) (by kernel_rfl) (by simp) ?_
 refine AllReady.cons rfl (fun K hK=>?_) ?_
 ·simp only[ay,Tryz.f63]
  go_simp
  refine hK _ _ ?_
  refine wpAny_take (i:=20) (v:=.agg #[.int .i64 (IntKind.i64.wrap ((n:Int)+1)),.int .i64 (v1:Int),.string ⟨#[65]⟩,.int .i64 (v2:Int),.int .i64 (fC v3),.int .i64 (IntKind.i64.wrap (95+(v4:Int))),.int .i64 (IntKind.i64.wrap (1+(v5:Int)))]) rfl (by kernel_rfl) (by kernel_rfl) (by kernel_rfl) (fun _ _ _ h=>HQ.2 _ _ _ _ _ h) (Or.inl ⟨by rfl,fun w=>by simp only[ay,Tryz.f63];go_simp⟩) ?_
  exact Bg D ao len cap zs base P bv n acts w Q HQ v1 v2 v3 v4 v5 Bs _ hR hv1 hv2 hv3 hv4 hv5 hN
 refine AllReady.cons rfl (fun K hK=>?_) ?_
 ·simp only[ay,Tryz.f63]
  go_simp
  refine hK _ _ ?_
  exact vZ D ao len cap zs base P bv n acts w Q HQ v1 v2 v3 v4 v5 Bs _ _ (hR.alloc _) hv1 hv2 hv3 hv4 hv5 (hN.alloc _) (bf.make hR)
 exact AllReady.nil
theorem Bd(D:Nat)(ao:Option Addr)(len cap:Nat)(zs:Nat->Int)(base P bv n:Nat)(acts:Int)(w:World)(Q:Exit->Act->World->Prop)(HQ:dB D ao len cap zs base P bv n acts w Q)(v1 v2 v3 v4 v5:Nat)(Bs:Nat)(Bo:Nat)(W:World)(hR:bM D ao len cap zs base P bv n acts w W)(hv1:(v1:Int)<4)(hv2:(v2:Int)<2)(hv3:(v3:Int)<9)(hv4:(v4:Int)<10)(hv5:(v5:Int)<9)(hN:bC D W Bs)(hO:bf D w W Bo) :
 wpAny Tryz.prog .any ay Q 4 #[true,true,true,false,false,true,true,true,true,true,true,true,true,true,true,true,true,true,true,true,false,true,false] ⟨((.pointer (some ⟨P,0,none⟩)) :: (.pointer (some ⟨D,0,none⟩)) :: (undef) :: (undef) :: (.pointer (some ⟨w.heap.size,0,none⟩)) :: (.pointer (some ⟨Bo,0,none⟩)) :: (.pointer (some ⟨P,0,none⟩)) :: (.pointer (some ⟨P,0,none⟩)) :: (.pointer (some ⟨P,1,none⟩)) :: (undef) :: (undef) :: (.pointer (some ⟨D,0,none⟩)) :: (.int .i64 (v1:Int)) :: (.pointer (some ⟨D,0,none⟩)) :: (.int .i64 (v2:Int)) :: (.slice (some ⟨Bs,0,none⟩) 9 9) :: (.pointer (some ⟨D,0,none⟩)) :: (.int .i64 (v3:Int)) :: (.pointer (some ⟨Bs,v3,none⟩)) :: (.int .i64 (fC v3)) :: (.pointer (some ⟨D,0,none⟩)) :: (.int .i64 (v4:Int)) :: (.int .i64 (IntKind.i64.wrap (95+(v4:Int)))) :: (.pointer (some ⟨D,0,none⟩)) :: (.int .i64 (v5:Int)) :: (.int .i64 (IntKind.i64.wrap (1+(v5:Int)))) :: (undef) :: (undef) :: (undef) :: (undef) :: (undef) :: (undef) :: (undef) :: (undef) :: (undef) :: (undef) :: []).toArray,[]⟩ W:=by
 have hcell:=hR.cell
 have hlt:=hR.eG.lt
 have hcv:=hN.cells v3 (by omega)
 have hNl:=hN.lt
 have ja:v3<9:=by omega
 refine wpAny_ready (rs:=[3]) (by kernel_rfl) (by simp) ?_
 refine AllReady.cons rfl (fun K hK=>?_) ?_
 ·simp only[ay,Tryz.f63]
  go_simp
  refine hK _ _ ?_
  refine wpAny_take (i:=4) (v:=.int .i64 (IntKind.i64.wrap ((n:Int)+1))) rfl (by kernel_rfl) (by kernel_rfl) (by kernel_rfl) (fun _ _ _ h=>HQ.2 _ _ _ _ _ h) (Or.inl ⟨by rfl,fun w=>by simp only[ay,Tryz.f63];go_simp⟩) ?_
  refine wpAny_take (i:=20) (v:=.agg #[.int .i64 (IntKind.i64.wrap ((n:Int)+1)),.int .i64 (v1:Int),.string ⟨#[65]⟩,.int .i64 (v2:Int),.int .i64 (fC v3),.int .i64 (IntKind.i64.wrap (95+(v4:Int))),.int .i64 (IntKind.i64.wrap (1+(v5:Int)))]) rfl (by kernel_rfl) (by kernel_rfl) (by kernel_rfl) (fun _ _ _ h=>HQ.2 _ _ _ _ _ h) (Or.inl ⟨by rfl,fun w=>by simp only[ay,Tryz.f63];go_simp⟩) ?_
  exact wB D ao len cap zs base P bv n acts w Q HQ v1 v2 v3 v4 v5 Bs Bo _ hR hv1 hv2 hv3 hv4 hv5 hN hO
 exact AllReady.nil
theorem vY(D:Nat)(ao:Option Addr)(len cap:Nat)(zs:Nat->Int)(base P bv n:Nat)(acts:Int)(w:World)(Q:Exit->Act->World->Prop)(HQ:dB D ao len cap zs base P bv n acts w Q)(v1 v2 v3 v4:Nat)(Bs:Nat)(Bo:Nat)(W:World)(hR:bM D ao len cap zs base P bv n acts w W)(hv1:(v1:Int)<4)(hv2:(v2:Int)<2)(hv3:(v3:Int)<9)(hv4:(v4:Int)<10)(hN:bC D W Bs)(hO:bf D w W Bo) :
 wpAny Tryz.prog .any ay Q 4 #[true,true,true,true,true,true,true,true,true,true,true,true,true,true,true,true,true,true,false,false,false,true,false] ⟨((.pointer (some ⟨P,0,none⟩)) :: (.pointer (some ⟨D,0,none⟩)) :: (undef) :: (undef) :: (.pointer (some ⟨w.heap.size,0,none⟩)) :: (.pointer (some ⟨Bo,0,none⟩)) :: (.pointer (some ⟨P,0,none⟩)) :: (.pointer (some ⟨P,0,none⟩)) :: (.pointer (some ⟨P,1,none⟩)) :: (.int .i64 (n:Int)) :: (.int .i64 (IntKind.i64.wrap ((n:Int)+1))) :: (.pointer (some ⟨D,0,none⟩)) :: (.int .i64 (v1:Int)) :: (.pointer (some ⟨D,0,none⟩)) :: (.int .i64 (v2:Int)) :: (.slice (some ⟨Bs,0,none⟩) 9 9) :: (.pointer (some ⟨D,0,none⟩)) :: (.int .i64 (v3:Int)) :: (.pointer (some ⟨Bs,v3,none⟩)) :: (.int .i64 (fC v3)) :: (.pointer (some ⟨D,0,none⟩)) :: (.int .i64 (v4:Int)) :: (.int .i64 (IntKind.i64.wrap (95+(v4:Int)))) :: (.pointer (some ⟨D,0,none⟩)) :: (undef) :: (undef) :: (undef) :: (undef) :: (undef) :: (undef) :: (undef) :: (undef) :: (undef) :: (undef) :: (undef) :: (undef) :: []).toArray,[]⟩ W:=by
 have hcell:=hR.cell
 have hlt:=hR.eG.lt
 have hcv:=hN.cells v3 (by omega)
 have hNl:=hN.lt
 have ja:v3<9:=by omega
 refine wpAny_ready (rs:=[18]) (by kernel_rfl) (by simp) ?_
 refine AllReady.cons rfl (fun K hK=>?_) ?_
 ·simp only[ay,Tryz.f63]
  go_wp2_with (go_at_call 35;refine (aY D ao len cap zs base P bv n acts w W _ hR (by decide) (by decide)).mono ?_;rintro e w' ⟨v5,rfl,hv5,hr,hk⟩)
  refine wpAny_take (i:=19) (v:=.int .i64 (IntKind.i64.wrap (1+(v5:Int)))) rfl (by kernel_rfl) (by kernel_rfl) (by kernel_rfl) (fun _ _ _ h=>HQ.2 _ _ _ _ _ h) (Or.inl ⟨by rfl,fun w=>by simp only[ay,Tryz.f63];go_simp⟩) ?_
  refine wpAny_take (i:=20) (v:=.agg #[.int .i64 (IntKind.i64.wrap ((n:Int)+1)),.int .i64 (v1:Int),.string ⟨#[65]⟩,.int .i64 (v2:Int),.int .i64 (fC v3),.int .i64 (IntKind.i64.wrap (95+(v4:Int))),.int .i64 (IntKind.i64.wrap (1+(v5:Int)))]) rfl (by kernel_rfl) (by kernel_rfl) (by kernel_rfl) (fun _ _ _ h=>HQ.2 _ _ _ _ _ h) (Or.inl ⟨by rfl,fun w=>by simp only[ay,Tryz.f63];go_simp⟩) ?_
  exact wB D ao len cap zs base P bv n acts w Q HQ v1 v2 v3 v4 v5 Bs Bo w' hr hv1 hv2 hv3 hv4 hv5 (hN.bG hk) (hO.bG hk)
 exact AllReady.nil
theorem Be(D:Nat)(ao:Option Addr)(len cap:Nat)(zs:Nat->Int)(base P bv n:Nat)(acts:Int)(w:World)(Q:Exit->Act->World->Prop)(HQ:dB D ao len cap zs base P bv n acts w Q)(v1 v2 v3 v4 v5:Nat)(Bo:Nat)(W:World)(hR:bM D ao len cap zs base P bv n acts w W)(hv1:(v1:Int)<4)(hv2:(v2:Int)<2)(hv3:(v3:Int)<9)(hv4:(v4:Int)<10)(hv5:(v5:Int)<9)(hO:bf D w W Bo) :
 wpAny Tryz.prog .any ay Q 5 #[true,true,true,true,true,true,true,true,true,false,true,true,false,false,true,true,true,true,true,true,false,true,false] ⟨((.pointer (some ⟨P,0,none⟩)) :: (.pointer (some ⟨D,0,none⟩)) :: (undef) :: (undef) :: (.pointer (some ⟨w.heap.size,0,none⟩)) :: (.pointer (some ⟨Bo,0,none⟩)) :: (.pointer (some ⟨P,0,none⟩)) :: (.pointer (some ⟨P,0,none⟩)) :: (.pointer (some ⟨P,1,none⟩)) :: (.int .i64 (n:Int)) :: (.int .i64 (IntKind.i64.wrap ((n:Int)+1))) :: (.pointer (some ⟨D,0,none⟩)) :: (.int .i64 (v1:Int)) :: (.pointer (some ⟨D,0,none⟩)) :: (.int .i64 (v2:Int)) :: (undef) :: (.pointer (some ⟨D,0,none⟩)) :: (.int .i64 (v3:Int)) :: (undef) :: (undef) :: (.pointer (some ⟨D,0,none⟩)) :: (.int .i64 (v4:Int)) :: (.int .i64 (IntKind.i64.wrap (95+(v4:Int)))) :: (.pointer (some ⟨D,0,none⟩)) :: (.int .i64 (v5:Int)) :: (.int .i64 (IntKind.i64.wrap (1+(v5:Int)))) :: (undef) :: (undef) :: (undef) :: (undef) :: (undef) :: (undef) :: (undef) :: (undef) :: (undef) :: (undef) :: []).toArray,[]⟩ W:=by
 have hcell:=hR.cell
 have hlt:=hR.eG.lt
 refine wpAny_ready (rs:=[9]) (by kernel_rfl) (by simp) ?_
 refine AllReady.cons rfl (fun K hK=>?_) ?_
 ·simp only[ay,Tryz.f63]
  go_simp
  refine hK _ _ ?_
  have ja:v3<9:=by omega
  refine wpAny_take (i:=12) (v:=.pointer (some ⟨W.heap.size,v3,none⟩)) rfl (by kernel_rfl) (by kernel_rfl) (by kernel_rfl) (fun _ _ _ h=>HQ.2 _ _ _ _ _ h) (Or.inl ⟨by rfl,fun w=>by simp only[ay,Tryz.f63];go_simp⟩) ?_
  exact vZ D ao len cap zs base P bv n acts w Q HQ v1 v2 v3 v4 v5 _ Bo _ (hR.alloc _) hv1 hv2 hv3 hv4 hv5 (bC.new hR) (hO.alloc _)
 exact AllReady.nil
theorem Bc(D:Nat)(ao:Option Addr)(len cap:Nat)(zs:Nat->Int)(base P bv n:Nat)(acts:Int)(w:World)(Q:Exit->Act->World->Prop)(HQ:dB D ao len cap zs base P bv n acts w Q)(v1 v2 v3 v4 v5:Nat)(Bs:Nat)(Bo:Nat)(W:World)(hR:bM D ao len cap zs base P bv n acts w W)(hv1:(v1:Int)<4)(hv2:(v2:Int)<2)(hv3:(v3:Int)<9)(hv4:(v4:Int)<10)(hv5:(v5:Int)<9)(hN:bC D W Bs)(hO:bf D w W Bo) :
 wpAny Tryz.prog .any ay Q 5 #[true,true,true,false,false,true,true,true,true,true,true,true,true,false,true,true,true,true,true,true,false,true,false] ⟨((.pointer (some ⟨P,0,none⟩)) :: (.pointer (some ⟨D,0,none⟩)) :: (undef) :: (undef) :: (.pointer (some ⟨w.heap.size,0,none⟩)) :: (.pointer (some ⟨Bo,0,none⟩)) :: (.pointer (some ⟨P,0,none⟩)) :: (.pointer (some ⟨P,0,none⟩)) :: (.pointer (some ⟨P,1,none⟩)) :: (undef) :: (undef) :: (.pointer (some ⟨D,0,none⟩)) :: (.int .i64 (v1:Int)) :: (.pointer (some ⟨D,0,none⟩)) :: (.int .i64 (v2:Int)) :: (.slice (some ⟨Bs,0,none⟩) 9 9) :: (.pointer (some ⟨D,0,none⟩)) :: (.int .i64 (v3:Int)) :: (.pointer (some ⟨Bs,v3,none⟩)) :: (undef) :: (.pointer (some ⟨D,0,none⟩)) :: (.int .i64 (v4:Int)) :: (.int .i64 (IntKind.i64.wrap (95+(v4:Int)))) :: (.pointer (some ⟨D,0,none⟩)) :: (.int .i64 (v5:Int)) :: (.int .i64 (IntKind.i64.wrap (1+(v5:Int)))) :: (undef) :: (undef) :: (undef) :: (undef) :: (undef) :: (undef) :: (undef) :: (undef) :: (undef) :: (undef) :: []).toArray,[]⟩ W:=by
 have hcell:=hR.cell
 have hlt:=hR.eG.lt
 have hcv:=hN.cells v3 (by omega)
 have hNl:=hN.lt
 have ja:v3<9:=by omega
 refine wpAny_ready (rs:=[3,13]) (by kernel_rfl) (by simp) ?_
 refine AllReady.cons rfl (fun K hK=>?_) ?_
 ·simp only[ay,Tryz.f63]
  go_simp
  refine hK _ _ ?_
  refine wpAny_take (i:=4) (v:=.int .i64 (IntKind.i64.wrap ((n:Int)+1))) rfl (by kernel_rfl) (by kernel_rfl) (by kernel_rfl) (fun _ _ _ h=>HQ.2 _ _ _ _ _ h) (Or.inl ⟨by rfl,fun w=>by simp only[ay,Tryz.f63];go_simp⟩) ?_
  exact vZ D ao len cap zs base P bv n acts w Q HQ v1 v2 v3 v4 v5 Bs Bo _ hR hv1 hv2 hv3 hv4 hv5 hN hO
 refine AllReady.cons rfl (fun K hK=>?_) ?_
 ·simp only[ay,Tryz.f63]
  go_simp
  refine hK _ _ ?_
  exact Bd D ao len cap zs base P bv n acts w Q HQ v1 v2 v3 v4 v5 Bs Bo _ hR hv1 hv2 hv3 hv4 hv5 hN hO
 exact AllReady.nil
theorem Ih(D:Nat)(ao:Option Addr)(len cap:Nat)(zs:Nat->Int)(base P bv n:Nat)(acts:Int)(w:World)(Q:Exit->Act->World->Prop)(HQ:dB D ao len cap zs base P bv n acts w Q)(v1 v2 v3 v4 v5:Nat)(Bs:Nat)(W:World)(hR:bM D ao len cap zs base P bv n acts w W)(hv1:(v1:Int)<4)(hv2:(v2:Int)<2)(hv3:(v3:Int)<9)(hv4:(v4:Int)<10)(hv5:(v5:Int)<9)(hN:bC D W Bs) :
 wpAny Tryz.prog .any ay Q 5 #[true,true,true,false,false,true,true,true,true,true,true,true,true,true,true,true,true,true,true,true,false,false,false] ⟨((.pointer (some ⟨P,0,none⟩)) :: (.pointer (some ⟨D,0,none⟩)) :: (undef) :: (undef) :: (.pointer (some ⟨w.heap.size,0,none⟩)) :: (undef) :: (.pointer (some ⟨P,0,none⟩)) :: (.pointer (some ⟨P,0,none⟩)) :: (.pointer (some ⟨P,1,none⟩)) :: (undef) :: (undef) :: (.pointer (some ⟨D,0,none⟩)) :: (.int .i64 (v1:Int)) :: (.pointer (some ⟨D,0,none⟩)) :: (.int .i64 (v2:Int)) :: (.slice (some ⟨Bs,0,none⟩) 9 9) :: (.pointer (some ⟨D,0,none⟩)) :: (.int .i64 (v3:Int)) :: (.pointer (some ⟨Bs,v3,none⟩)) :: (.int .i64 (fC v3)) :: (.pointer (some ⟨D,0,none⟩)) :: (.int .i64 (v4:Int)) :: (.int .i64 (IntKind.i64.wrap (95+(v4:Int)))) :: (.pointer (some ⟨D,0,none⟩)) :: (.int .i64 (v5:Int)) :: (.int .i64 (IntKind.i64.wrap (1+(v5:Int)))) :: (undef) :: (undef) :: (undef) :: (undef) :: (undef) :: (undef) :: (undef) :: (undef) :: (undef) :: (undef) :: []).toArray,[]⟩ W:=by
 have hcell:=hR.cell
 have hlt:=hR.eG.lt
 have hcv:=hN.cells v3 (by omega)
 have hNl:=hN.lt
 have ja:v3<9:=by omega
 refine wpAny_ready (rs:=[3,21]) (by kernel_rfl) (by simp) ?_
 refine AllReady.cons rfl (fun K hK=>?_) ?_
 ·simp only[ay,Tryz.f63]
  go_simp
  refine hK _ _ ?_
  refine wpAny_take (i:=4) (v:=.int .i64 (IntKind.i64.wrap ((n:Int)+1))) rfl (by kernel_rfl) (by kernel_rfl) (by kernel_rfl) (fun _ _ _ h=>HQ.2 _ _ _ _ _ h) (Or.inl ⟨by rfl,fun w=>by simp only[ay,Tryz.f63];go_simp⟩) ?_
  refine wpAny_take (i:=20) (v:=.agg #[.int .i64 (IntKind.i64.wrap ((n:Int)+1)),.int .i64 (v1:Int),.string ⟨#[65]⟩,.int .i64 (v2:Int),.int .i64 (fC v3),.int .i64 (IntKind.i64.wrap (95+(v4:Int))),.int .i64 (IntKind.i64.wrap (1+(v5:Int)))]) rfl (by kernel_rfl) (by kernel_rfl) (by kernel_rfl) (fun _ _ _ h=>HQ.2 _ _ _ _ _ h) (Or.inl ⟨by rfl,fun w=>by simp only[ay,Tryz.f63];go_simp⟩) ?_
  exact Bg D ao len cap zs base P bv n acts w Q HQ v1 v2 v3 v4 v5 Bs _ hR hv1 hv2 hv3 hv4 hv5 hN
 refine AllReady.cons rfl (fun K hK=>?_) ?_
 ·simp only[ay,Tryz.f63]
  go_simp
  refine hK _ _ ?_
  exact Bd D ao len cap zs base P bv n acts w Q HQ v1 v2 v3 v4 v5 Bs _ _ (hR.alloc _) hv1 hv2 hv3 hv4 hv5 (hN.alloc _) (bf.make hR)
 exact AllReady.nil
theorem vX(D:Nat)(ao:Option Addr)(len cap:Nat)(zs:Nat->Int)(base P bv n:Nat)(acts:Int)(w:World)(Q:Exit->Act->World->Prop)(HQ:dB D ao len cap zs base P bv n acts w Q)(v1 v2 v3 v4:Nat)(Bs:Nat)(Bo:Nat)(W:World)(hR:bM D ao len cap zs base P bv n acts w W)(hv1:(v1:Int)<4)(hv2:(v2:Int)<2)(hv3:(v3:Int)<9)(hv4:(v4:Int)<10)(hN:bC D W Bs)(hO:bf D w W Bo) :
 wpAny Tryz.prog .any ay Q 5 #[true,true,true,true,true,true,true,true,true,true,true,true,true,false,true,true,true,true,false,false,false,true,false] ⟨((.pointer (some ⟨P,0,none⟩)) :: (.pointer (some ⟨D,0,none⟩)) :: (undef) :: (undef) :: (.pointer (some ⟨w.heap.size,0,none⟩)) :: (.pointer (some ⟨Bo,0,none⟩)) :: (.pointer (some ⟨P,0,none⟩)) :: (.pointer (some ⟨P,0,none⟩)) :: (.pointer (some ⟨P,1,none⟩)) :: (.int .i64 (n:Int)) :: (.int .i64 (IntKind.i64.wrap ((n:Int)+1))) :: (.pointer (some ⟨D,0,none⟩)) :: (.int .i64 (v1:Int)) :: (.pointer (some ⟨D,0,none⟩)) :: (.int .i64 (v2:Int)) :: (.slice (some ⟨Bs,0,none⟩) 9 9) :: (.pointer (some ⟨D,0,none⟩)) :: (.int .i64 (v3:Int)) :: (.pointer (some ⟨Bs,v3,none⟩)) :: (undef) :: (.pointer (some ⟨D,0,none⟩)) :: (.int .i64 (v4:Int)) :: (.int .i64 (IntKind.i64.wrap (95+(v4:Int)))) :: (.pointer (some ⟨D,0,none⟩)) :: (undef) :: (undef) :: (undef) :: (undef) :: (undef) :: (undef) :: (undef) :: (undef) :: (undef) :: (undef) :: (undef) :: (undef) :: []).toArray,[]⟩ W:=by
 have hcell:=hR.cell
 have hlt:=hR.eG.lt
 have hcv:=hN.cells v3 (by omega)
 have hNl:=hN.lt
 have ja:v3<9:=by omega
 refine wpAny_ready (rs:=[13,18]) (by kernel_rfl) (by simp) ?_
 refine AllReady.cons rfl (fun K hK=>?_) ?_
 ·simp only[ay,Tryz.f63]
  go_simp
  refine hK _ _ ?_
  exact vY D ao len cap zs base P bv n acts w Q HQ v1 v2 v3 v4 Bs Bo _ hR hv1 hv2 hv3 hv4 hN hO
 refine AllReady.cons rfl (fun K hK=>?_) ?_
 ·simp only[ay,Tryz.f63]
  go_wp2_with (go_at_call 35;refine (aY D ao len cap zs base P bv n acts w W _ hR (by decide) (by decide)).mono ?_;rintro e w' ⟨v5,rfl,hv5,hr,hk⟩)
  refine wpAny_take (i:=19) (v:=.int .i64 (IntKind.i64.wrap (1+(v5:Int)))) rfl (by kernel_rfl) (by kernel_rfl) (by kernel_rfl) (fun _ _ _ h=>HQ.2 _ _ _ _ _ h) (Or.inl ⟨by rfl,fun w=>by simp only[ay,Tryz.f63];go_simp⟩) ?_
  exact vZ D ao len cap zs base P bv n acts w Q HQ v1 v2 v3 v4 v5 Bs Bo w' hr hv1 hv2 hv3 hv4 hv5 (hN.bG hk) (hO.bG hk)
 exact AllReady.nil
theorem Ba(D:Nat)(ao:Option Addr)(len cap:Nat)(zs:Nat->Int)(base P bv n:Nat)(acts:Int)(w:World)(Q:Exit->Act->World->Prop)(HQ:dB D ao len cap zs base P bv n acts w Q)(v1 v2 v3 v4:Nat)(Bs:Nat)(W:World)(hR:bM D ao len cap zs base P bv n acts w W)(hv1:(v1:Int)<4)(hv2:(v2:Int)<2)(hv3:(v3:Int)<9)(hv4:(v4:Int)<10)(hN:bC D W Bs) :
 wpAny Tryz.prog .any ay Q 5 #[true,true,true,true,true,true,true,true,true,true,true,true,true,true,true,true,true,true,false,false,false,false,false] ⟨((.pointer (some ⟨P,0,none⟩)) :: (.pointer (some ⟨D,0,none⟩)) :: (undef) :: (undef) :: (.pointer (some ⟨w.heap.size,0,none⟩)) :: (undef) :: (.pointer (some ⟨P,0,none⟩)) :: (.pointer (some ⟨P,0,none⟩)) :: (.pointer (some ⟨P,1,none⟩)) :: (.int .i64 (n:Int)) :: (.int .i64 (IntKind.i64.wrap ((n:Int)+1))) :: (.pointer (some ⟨D,0,none⟩)) :: (.int .i64 (v1:Int)) :: (.pointer (some ⟨D,0,none⟩)) :: (.int .i64 (v2:Int)) :: (.slice (some ⟨Bs,0,none⟩) 9 9) :: (.pointer (some ⟨D,0,none⟩)) :: (.int .i64 (v3:Int)) :: (.pointer (some ⟨Bs,v3,none⟩)) :: (.int .i64 (fC v3)) :: (.pointer (some ⟨D,0,none⟩)) :: (.int .i64 (v4:Int)) :: (.int .i64 (IntKind.i64.wrap (95+(v4:Int)))) :: (.pointer (some ⟨D,0,none⟩)) :: (undef) :: (undef) :: (undef) :: (undef) :: (undef) :: (undef) :: (undef) :: (undef) :: (undef) :: (undef) :: (undef) :: (undef) :: []).toArray,[]⟩ W:=by
 have hcell:=hR.cell
 have hlt:=hR.eG.lt
 have hcv:=hN.cells v3 (by omega)
 have hNl:=hN.lt
 have ja:v3<9:=by omega
 refine wpAny_ready (rs:=[18,21]) (by kernel_rfl) (by simp) ?_
 refine AllReady.cons rfl (fun K hK=>?_) ?_
 ·simp only[ay,Tryz.f63]
  go_wp2_with (go_at_call 35;refine (aY D ao len cap zs base P bv n acts w W _ hR (by decide) (by decide)).mono ?_;rintro e w' ⟨v5,rfl,hv5,hr,hk⟩)
  refine wpAny_take (i:=19) (v:=.int .i64 (IntKind.i64.wrap (1+(v5:Int)))) rfl (by kernel_rfl) (by kernel_rfl) (by kernel_rfl) (fun _ _ _ h=>HQ.2 _ _ _ _ _ h) (Or.inl ⟨by rfl,fun w=>by simp only[ay,Tryz.f63];go_simp⟩) ?_
  refine wpAny_take (i:=20) (v:=.agg #[.int .i64 (IntKind.i64.wrap ((n:Int)+1)),.int .i64 (v1:Int),.string ⟨#[65]⟩,.int .i64 (v2:Int),.int .i64 (fC v3),.int .i64 (IntKind.i64.wrap (95+(v4:Int))),.int .i64 (IntKind.i64.wrap (1+(v5:Int)))]) rfl (by kernel_rfl) (by kernel_rfl) (by kernel_rfl) (fun _ _ _ h=>HQ.2 _ _ _ _ _ h) (Or.inl ⟨by rfl,fun w=>by simp only[ay,Tryz.f63];go_simp⟩) ?_
  exact Bg D ao len cap zs base P bv n acts w Q HQ v1 v2 v3 v4 v5 Bs w' hr hv1 hv2 hv3 hv4 hv5 (hN.bG hk)
 refine AllReady.cons rfl (fun K hK=>?_) ?_
 ·simp only[ay,Tryz.f63]
  go_simp
  refine hK _ _ ?_
  exact vY D ao len cap zs base P bv n acts w Q HQ v1 v2 v3 v4 Bs _ _ (hR.alloc _) hv1 hv2 hv3 hv4 (hN.alloc _) (bf.make hR)
 exact AllReady.nil
theorem Ii(D:Nat)(ao:Option Addr)(len cap:Nat)(zs:Nat->Int)(base P bv n:Nat)(acts:Int)(w:World)(Q:Exit->Act->World->Prop)(HQ:dB D ao len cap zs base P bv n acts w Q)(v1 v2 v3 v4 v5:Nat)(W:World)(hR:bM D ao len cap zs base P bv n acts w W)(hv1:(v1:Int)<4)(hv2:(v2:Int)<2)(hv3:(v3:Int)<9)(hv4:(v4:Int)<10)(hv5:(v5:Int)<9) :
 wpAny Tryz.prog .any ay Q 6 #[true,true,true,true,true,true,true,true,true,false,true,true,false,false,true,true,true,true,true,true,false,false,false] ⟨((.pointer (some ⟨P,0,none⟩)) :: (.pointer (some ⟨D,0,none⟩)) :: (undef) :: (undef) :: (.pointer (some ⟨w.heap.size,0,none⟩)) :: (undef) :: (.pointer (some ⟨P,0,none⟩)) :: (.pointer (some ⟨P,0,none⟩)) :: (.pointer (some ⟨P,1,none⟩)) :: (.int .i64 (n:Int)) :: (.int .i64 (IntKind.i64.wrap ((n:Int)+1))) :: (.pointer (some ⟨D,0,none⟩)) :: (.int .i64 (v1:Int)) :: (.pointer (some ⟨D,0,none⟩)) :: (.int .i64 (v2:Int)) :: (undef) :: (.pointer (some ⟨D,0,none⟩)) :: (.int .i64 (v3:Int)) :: (undef) :: (undef) :: (.pointer (some ⟨D,0,none⟩)) :: (.int .i64 (v4:Int)) :: (.int .i64 (IntKind.i64.wrap (95+(v4:Int)))) :: (.pointer (some ⟨D,0,none⟩)) :: (.int .i64 (v5:Int)) :: (.int .i64 (IntKind.i64.wrap (1+(v5:Int)))) :: (undef) :: (undef) :: (undef) :: (undef) :: (undef) :: (undef) :: (undef) :: (undef) :: (undef) :: (undef) :: []).toArray,[]⟩ W:=by
 have hcell:=hR.cell
 have hlt:=hR.eG.lt
 refine wpAny_ready (rs:=[9,21]) (by kernel_rfl) (by simp) ?_
 refine AllReady.cons rfl (fun K hK=>?_) ?_
 ·simp only[ay,Tryz.f63]
  go_simp
  refine hK _ _ ?_
  have ja:v3<9:=by omega
  refine wpAny_take (i:=12) (v:=.pointer (some ⟨W.heap.size,v3,none⟩)) rfl (by kernel_rfl) (by kernel_rfl) (by kernel_rfl) (fun _ _ _ h=>HQ.2 _ _ _ _ _ h) (Or.inl ⟨by rfl,fun w=>by simp only[ay,Tryz.f63];go_simp⟩) ?_
  exact Bf D ao len cap zs base P bv n acts w Q HQ v1 v2 v3 v4 v5 _ _ (hR.alloc _) hv1 hv2 hv3 hv4 hv5 (bC.new hR)
 refine AllReady.cons rfl (fun K hK=>?_) ?_
 ·simp only[ay,Tryz.f63]
  go_simp
  refine hK _ _ ?_
  exact Be D ao len cap zs base P bv n acts w Q HQ v1 v2 v3 v4 v5 _ _ (hR.alloc _) hv1 hv2 hv3 hv4 hv5 (bf.make hR)
 exact AllReady.nil
theorem Ig(D:Nat)(ao:Option Addr)(len cap:Nat)(zs:Nat->Int)(base P bv n:Nat)(acts:Int)(w:World)(Q:Exit->Act->World->Prop)(HQ:dB D ao len cap zs base P bv n acts w Q)(v1 v2 v3 v4 v5:Nat)(Bs:Nat)(W:World)(hR:bM D ao len cap zs base P bv n acts w W)(hv1:(v1:Int)<4)(hv2:(v2:Int)<2)(hv3:(v3:Int)<9)(hv4:(v4:Int)<10)(hv5:(v5:Int)<9)(hN:bC D W Bs) :
 wpAny Tryz.prog .any ay Q 6 #[true,true,true,false,false,true,true,true,true,true,true,true,true,false,true,true,true,true,true,true,false,false,false] ⟨((.pointer (some ⟨P,0,none⟩)) :: (.pointer (some ⟨D,0,none⟩)) :: (undef) :: (undef) :: (.pointer (some ⟨w.heap.size,0,none⟩)) :: (undef) :: (.pointer (some ⟨P,0,none⟩)) :: (.pointer (some ⟨P,0,none⟩)) :: (.pointer (some ⟨P,1,none⟩)) :: (undef) :: (undef) :: (.pointer (some ⟨D,0,none⟩)) :: (.int .i64 (v1:Int)) :: (.pointer (some ⟨D,0,none⟩)) :: (.int .i64 (v2:Int)) :: (.slice (some ⟨Bs,0,none⟩) 9 9) :: (.pointer (some ⟨D,0,none⟩)) :: (.int .i64 (v3:Int)) :: (.pointer (some ⟨Bs,v3,none⟩)) :: (undef) :: (.pointer (some ⟨D,0,none⟩)) :: (.int .i64 (v4:Int)) :: (.int .i64 (IntKind.i64.wrap (95+(v4:Int)))) :: (.pointer (some ⟨D,0,none⟩)) :: (.int .i64 (v5:Int)) :: (.int .i64 (IntKind.i64.wrap (1+(v5:Int)))) :: (undef) :: (undef) :: (undef) :: (undef) :: (undef) :: (undef) :: (undef) :: (undef) :: (undef) :: (undef) :: []).toArray,[]⟩ W:=by
 have hcell:=hR.cell
 have hlt:=hR.eG.lt
 have hcv:=hN.cells v3 (by omega)
 have hNl:=hN.lt
 have ja:v3<9:=by omega
 refine wpAny_ready (rs:=[3,13,21]) (by kernel_rfl) (by simp) ?_
 refine AllReady.cons rfl (fun K hK=>?_) ?_
 ·simp only[ay,Tryz.f63]
  go_simp
  refine hK _ _ ?_
  refine wpAny_take (i:=4) (v:=.int .i64 (IntKind.i64.wrap ((n:Int)+1))) rfl (by kernel_rfl) (by kernel_rfl) (by kernel_rfl) (fun _ _ _ h=>HQ.2 _ _ _ _ _ h) (Or.inl ⟨by rfl,fun w=>by simp only[ay,Tryz.f63];go_simp⟩) ?_
  exact Bf D ao len cap zs base P bv n acts w Q HQ v1 v2 v3 v4 v5 Bs _ hR hv1 hv2 hv3 hv4 hv5 hN
 refine AllReady.cons rfl (fun K hK=>?_) ?_
 ·simp only[ay,Tryz.f63]
  go_simp
  refine hK _ _ ?_
  exact Ih D ao len cap zs base P bv n acts w Q HQ v1 v2 v3 v4 v5 Bs _ hR hv1 hv2 hv3 hv4 hv5 hN
 refine AllReady.cons rfl (fun K hK=>?_) ?_
 ·simp only[ay,Tryz.f63]
  go_simp
  refine hK _ _ ?_
  exact Bc D ao len cap zs base P bv n acts w Q HQ v1 v2 v3 v4 v5 Bs _ _ (hR.alloc _) hv1 hv2 hv3 hv4 hv5 (hN.alloc _) (bf.make hR)
 exact AllReady.nil
theorem A8(D:Nat)(ao:Option Addr)(len cap:Nat)(zs:Nat->Int)(base P bv n:Nat)(acts:Int)(w:World)(Q:Exit->Act->World->Prop)(HQ:dB D ao len cap zs base P bv n acts w Q)(v1 v2 v3 v4:Nat)(Bs:Nat)(W:World)(hR:bM D ao len cap zs base P bv n acts w W)(hv1:(v1:Int)<4)(hv2:(v2:Int)<2)(hv3:(v3:Int)<9)(hv4:(v4:Int)<10)(hN:bC D W Bs) :
 wpAny Tryz.prog .any ay Q 6 #[true,true,true,true,true,true,true,true,true,true,true,true,true,false,true,true,true,true,false,false,false,false,false] ⟨((.pointer (some ⟨P,0,none⟩)) :: (.pointer (some ⟨D,0,none⟩)) :: (undef) :: (undef) :: (.pointer (some ⟨w.heap.size,0,none⟩)) :: (undef) :: (.pointer (some ⟨P,0,none⟩)) :: (.pointer (some ⟨P,0,none⟩)) :: (.pointer (some ⟨P,1,none⟩)) :: (.int .i64 (n:Int)) :: (.int .i64 (IntKind.i64.wrap ((n:Int)+1))) :: (.pointer (some ⟨D,0,none⟩)) :: (.int .i64 (v1:Int)) :: (.pointer (some ⟨D,0,none⟩)) :: (.int .i64 (v2:Int)) :: (.slice (some ⟨Bs,0,none⟩) 9 9) :: (.pointer (some ⟨D,0,none⟩)) :: (.int .i64 (v3:Int)) :: (.pointer (some ⟨Bs,v3,none⟩)) :: (undef) :: (.pointer (some ⟨D,0,none⟩)) :: (.int .i64 (v4:Int)) :: (.int .i64 (IntKind.i64.wrap (95+(v4:Int)))) :: (.pointer (some ⟨D,0,none⟩)) :: (undef) :: (undef) :: (undef) :: (undef) :: (undef) :: (undef) :: (undef) :: (undef) :: (undef) :: (undef) :: (undef) :: (undef) :: []).toArray,[]⟩ W:=by
 have hcell:=hR.cell
 have hlt:=hR.eG.lt
 have hcv:=hN.cells v3 (by omega)
 have hNl:=hN.lt
 have ja:v3<9:=by omega
 refine wpAny_ready (rs:=[13,18,21]) (by kernel_rfl) (by simp) ?_
 refine AllReady.cons rfl (fun K hK=>?_) ?_
 ·simp only[ay,Tryz.f63]
  go_simp
  refine hK _ _ ?_
  exact Ba D ao len cap zs base P bv n acts w Q HQ v1 v2 v3 v4 Bs _ hR hv1 hv2 hv3 hv4 hN
 refine AllReady.cons rfl (fun K hK=>?_) ?_
 ·simp only[ay,Tryz.f63]
  go_wp2_with (go_at_call 35;refine (aY D ao len cap zs base P bv n acts w W _ hR (by decide) (by decide)).mono ?_;rintro e w' ⟨v5,rfl,hv5,hr,hk⟩)
  refine wpAny_take (i:=19) (v:=.int .i64 (IntKind.i64.wrap (1+(v5:Int)))) rfl (by kernel_rfl) (by kernel_rfl) (by kernel_rfl) (fun _ _ _ h=>HQ.2 _ _ _ _ _ h) (Or.inl ⟨by rfl,fun w=>by simp only[ay,Tryz.f63];go_simp⟩) ?_
  exact Bf D ao len cap zs base P bv n acts w Q HQ v1 v2 v3 v4 v5 Bs w' hr hv1 hv2 hv3 hv4 hv5 (hN.bG hk)
 refine AllReady.cons rfl (fun K hK=>?_) ?_
 ·simp only[ay,Tryz.f63]
  go_simp
  refine hK _ _ ?_
  exact vX D ao len cap zs base P bv n acts w Q HQ v1 v2 v3 v4 Bs _ _ (hR.alloc _) hv1 hv2 hv3 hv4 (hN.alloc _) (bf.make hR)
 exact AllReady.nil
theorem AZ(D:Nat)(ao:Option Addr)(len cap:Nat)(zs:Nat->Int)(base P bv n:Nat)(acts:Int)(w:World)(Q:Exit->Act->World->Prop)(HQ:dB D ao len cap zs base P bv n acts w Q)(v1 v2 v3 v4:Nat)(Bs:Nat)(Bo:Nat)(W:World)(hR:bM D ao len cap zs base P bv n acts w W)(hv1:(v1:Int)<4)(hv2:(v2:Int)<2)(hv3:(v3:Int)<9)(hv4:(v4:Int)<10)(hN:bC D W Bs)(hO:bf D w W Bo) :
 wpAny Tryz.prog .any ay Q 6 #[true,true,true,false,false,true,true,true,true,true,true,true,true,true,true,true,true,true,false,false,false,true,false] ⟨((.pointer (some ⟨P,0,none⟩)) :: (.pointer (some ⟨D,0,none⟩)) :: (undef) :: (undef) :: (.pointer (some ⟨w.heap.size,0,none⟩)) :: (.pointer (some ⟨Bo,0,none⟩)) :: (.pointer (some ⟨P,0,none⟩)) :: (.pointer (some ⟨P,0,none⟩)) :: (.pointer (some ⟨P,1,none⟩)) :: (undef) :: (undef) :: (.pointer (some ⟨D,0,none⟩)) :: (.int .i64 (v1:Int)) :: (.pointer (some ⟨D,0,none⟩)) :: (.int .i64 (v2:Int)) :: (.slice (some ⟨Bs,0,none⟩) 9 9) :: (.pointer (some ⟨D,0,none⟩)) :: (.int .i64 (v3:Int)) :: (.pointer (some ⟨Bs,v3,none⟩)) :: (.int .i64 (fC v3)) :: (.pointer (some ⟨D,0,none⟩)) :: (.int .i64 (v4:Int)) :: (.int .i64 (IntKind.i64.wrap (95+(v4:Int)))) :: (.pointer (some ⟨D,0,none⟩)) :: (undef) :: (undef) :: (undef) :: (undef) :: (undef) :: (undef) :: (undef) :: (undef) :: (undef) :: (undef) :: (undef) :: (undef) :: []).toArray,[]⟩ W:=by
 have hcell:=hR.cell
 have hlt:=hR.eG.lt
 have hcv:=hN.cells v3 (by omega)
 have hNl:=hN.lt
 have ja:v3<9:=by omega
 refine wpAny_ready (rs:=[3,18]) (by kernel_rfl) (by simp) ?_
 refine AllReady.cons rfl (fun K hK=>?_) ?_
 ·simp only[ay,Tryz.f63]
  go_simp
  refine hK _ _ ?_
  refine wpAny_take (i:=4) (v:=.int .i64 (IntKind.i64.wrap ((n:Int)+1))) rfl (by kernel_rfl) (by kernel_rfl) (by kernel_rfl) (fun _ _ _ h=>HQ.2 _ _ _ _ _ h) (Or.inl ⟨by rfl,fun w=>by simp only[ay,Tryz.f63];go_simp⟩) ?_
  exact vY D ao len cap zs base P bv n acts w Q HQ v1 v2 v3 v4 Bs Bo _ hR hv1 hv2 hv3 hv4 hN hO
 refine AllReady.cons rfl (fun K hK=>?_) ?_
 ·simp only[ay,Tryz.f63]
  go_wp2_with (go_at_call 35;refine (aY D ao len cap zs base P bv n acts w W _ hR (by decide) (by decide)).mono ?_;rintro e w' ⟨v5,rfl,hv5,hr,hk⟩)
  refine wpAny_take (i:=19) (v:=.int .i64 (IntKind.i64.wrap (1+(v5:Int)))) rfl (by kernel_rfl) (by kernel_rfl) (by kernel_rfl) (fun _ _ _ h=>HQ.2 _ _ _ _ _ h) (Or.inl ⟨by rfl,fun w=>by simp only[ay,Tryz.f63];go_simp⟩) ?_
  exact Bd D ao len cap zs base P bv n acts w Q HQ v1 v2 v3 v4 v5 Bs Bo w' hr hv1 hv2 hv3 hv4 hv5 (hN.bG hk) (hO.bG hk)
 exact AllReady.nil
theorem AX(D:Nat)(ao:Option Addr)(len cap:Nat)(zs:Nat->Int)(base P bv n:Nat)(acts:Int)(w:World)(Q:Exit->Act->World->Prop)(HQ:dB D ao len cap zs base P bv n acts w Q)(v1 v2 v3:Nat)(Bs:Nat)(Bo:Nat)(W:World)(hR:bM D ao len cap zs base P bv n acts w W)(hv1:(v1:Int)<4)(hv2:(v2:Int)<2)(hv3:(v3:Int)<9)(hN:bC D W Bs)(hO:bf D w W Bo) :
 wpAny Tryz.prog .any ay Q 6 #[true,true,true,true,true,true,true,true,true,true,true,true,true,true,true,false,false,true,false,false,false,true,false] ⟨((.pointer (some ⟨P,0,none⟩)) :: (.pointer (some ⟨D,0,none⟩)) :: (undef) :: (undef) :: (.pointer (some ⟨w.heap.size,0,none⟩)) :: (.pointer (some ⟨Bo,0,none⟩)) :: (.pointer (some ⟨P,0,none⟩)) :: (.pointer (some ⟨P,0,none⟩)) :: (.pointer (some ⟨P,1,none⟩)) :: (.int .i64 (n:Int)) :: (.int .i64 (IntKind.i64.wrap ((n:Int)+1))) :: (.pointer (some ⟨D,0,none⟩)) :: (.int .i64 (v1:Int)) :: (.pointer (some ⟨D,0,none⟩)) :: (.int .i64 (v2:Int)) :: (.slice (some ⟨Bs,0,none⟩) 9 9) :: (.pointer (some ⟨D,0,none⟩)) :: (.int .i64 (v3:Int)) :: (.pointer (some ⟨Bs,v3,none⟩)) :: (.int .i64 (fC v3)) :: (.pointer (some ⟨D,0,none⟩)) :: (undef) :: (undef) :: (.pointer (some ⟨D,0,none⟩)) :: (undef) :: (undef) :: (undef) :: (undef) :: (undef) :: (undef) :: (undef) :: (undef) :: (undef) :: (undef) :: (undef) :: (undef) :: []).toArray,[]⟩ W:=by
 have hcell:=hR.cell
 have hlt:=hR.eG.lt
 have hcv:=hN.cells v3 (by omega)
 have hNl:=hN.lt
 have ja:v3<9:=by omega
 refine wpAny_ready (rs:=[15]) (by kernel_rfl) (by simp) ?_
 refine AllReady.cons rfl (fun K hK=>?_) ?_
 ·simp only[ay,Tryz.f63]
  go_wp2_with (go_at_call 35;refine (aY D ao len cap zs base P bv n acts w W _ hR (by decide) (by decide)).mono ?_;rintro e w' ⟨v4,rfl,hv4,hr,hk⟩)
  refine wpAny_take (i:=16) (v:=.int .i64 (IntKind.i64.wrap (95+(v4:Int)))) rfl (by kernel_rfl) (by kernel_rfl) (by kernel_rfl) (fun _ _ _ h=>HQ.2 _ _ _ _ _ h) (Or.inl ⟨by rfl,fun w=>by simp only[ay,Tryz.f63];go_simp⟩) ?_
  exact vY D ao len cap zs base P bv n acts w Q HQ v1 v2 v3 v4 Bs Bo w' hr hv1 hv2 hv3 hv4 (hN.bG hk) (hO.bG hk)
 exact AllReady.nil
theorem Ie(D:Nat)(ao:Option Addr)(len cap:Nat)(zs:Nat->Int)(base P bv n:Nat)(acts:Int)(w:World)(Q:Exit->Act->World->Prop)(HQ:dB D ao len cap zs base P bv n acts w Q)(v1 v2 v3 v4 v5:Nat)(Bo:Nat)(W:World)(hR:bM D ao len cap zs base P bv n acts w W)(hv1:(v1:Int)<4)(hv2:(v2:Int)<2)(hv3:(v3:Int)<9)(hv4:(v4:Int)<10)(hv5:(v5:Int)<9)(hO:bf D w W Bo) :
 wpAny Tryz.prog .any ay Q 7 #[true,true,true,false,false,true,true,true,true,false,true,true,false,false,true,true,true,true,true,true,false,true,false] ⟨((.pointer (some ⟨P,0,none⟩)) :: (.pointer (some ⟨D,0,none⟩)) :: (undef) :: (undef) :: (.pointer (some ⟨w.heap.size,0,none⟩)) :: (.pointer (some ⟨Bo,0,none⟩)) :: (.pointer (some ⟨P,0,none⟩)) :: (.pointer (some ⟨P,0,none⟩)) :: (.pointer (some ⟨P,1,none⟩)) :: (undef) :: (undef) :: (.pointer (some ⟨D,0,none⟩)) :: (.int .i64 (v1:Int)) :: (.pointer (some ⟨D,0,none⟩)) :: (.int .i64 (v2:Int)) :: (undef) :: (.pointer (some ⟨D,0,none⟩)) :: (.int .i64 (v3:Int)) :: (undef) :: (undef) :: (.pointer (some ⟨D,0,none⟩)) :: (.int .i64 (v4:Int)) :: (.int .i64 (IntKind.i64.wrap (95+(v4:Int)))) :: (.pointer (some ⟨D,0,none⟩)) :: (.int .i64 (v5:Int)) :: (.int .i64 (IntKind.i64.wrap (1+(v5:Int)))) :: (undef) :: (undef) :: (undef) :: (undef) :: (undef) :: (undef) :: (undef) :: (undef) :: (undef) :: (undef) :: []).toArray,[]⟩ W:=by
 have hcell:=hR.cell
 have hlt:=hR.eG.lt
 refine wpAny_ready (rs:=[3,9]) (by kernel_rfl) (by simp) ?_
 refine AllReady.cons rfl (fun K hK=>?_) ?_
 ·simp only[ay,Tryz.f63]
  go_simp
  refine hK _ _ ?_
  refine wpAny_take (i:=4) (v:=.int .i64 (IntKind.i64.wrap ((n:Int)+1))) rfl (by kernel_rfl) (by kernel_rfl) (by kernel_rfl) (fun _ _ _ h=>HQ.2 _ _ _ _ _ h) (Or.inl ⟨by rfl,fun w=>by simp only[ay,Tryz.f63];go_simp⟩) ?_
  exact Be D ao len cap zs base P bv n acts w Q HQ v1 v2 v3 v4 v5 Bo _ hR hv1 hv2 hv3 hv4 hv5 hO
 refine AllReady.cons rfl (fun K hK=>?_) ?_
 ·simp only[ay,Tryz.f63]
  go_simp
  refine hK _ _ ?_
  have ja:v3<9:=by omega
  refine wpAny_take (i:=12) (v:=.pointer (some ⟨W.heap.size,v3,none⟩)) rfl (by kernel_rfl) (by kernel_rfl) (by kernel_rfl) (fun _ _ _ h=>HQ.2 _ _ _ _ _ h) (Or.inl ⟨by rfl,fun w=>by simp only[ay,Tryz.f63];go_simp⟩) ?_
  exact Bc D ao len cap zs base P bv n acts w Q HQ v1 v2 v3 v4 v5 _ Bo _ (hR.alloc _) hv1 hv2 hv3 hv4 hv5 (bC.new hR) (hO.alloc _)
 exact AllReady.nil
theorem A7(D:Nat)(ao:Option Addr)(len cap:Nat)(zs:Nat->Int)(base P bv n:Nat)(acts:Int)(w:World)(Q:Exit->Act->World->Prop)(HQ:dB D ao len cap zs base P bv n acts w Q)(v1 v2 v3 v4:Nat)(Bo:Nat)(W:World)(hR:bM D ao len cap zs base P bv n acts w W)(hv1:(v1:Int)<4)(hv2:(v2:Int)<2)(hv3:(v3:Int)<9)(hv4:(v4:Int)<10)(hO:bf D w W Bo) :
 wpAny Tryz.prog .any ay Q 7 #[true,true,true,true,true,true,true,true,true,false,true,true,false,false,true,true,true,true,false,false,false,true,false] ⟨((.pointer (some ⟨P,0,none⟩)) :: (.pointer (some ⟨D,0,none⟩)) :: (undef) :: (undef) :: (.pointer (some ⟨w.heap.size,0,none⟩)) :: (.pointer (some ⟨Bo,0,none⟩)) :: (.pointer (some ⟨P,0,none⟩)) :: (.pointer (some ⟨P,0,none⟩)) :: (.pointer (some ⟨P,1,none⟩)) :: (.int .i64 (n:Int)) :: (.int .i64 (IntKind.i64.wrap ((n:Int)+1))) :: (.pointer (some ⟨D,0,none⟩)) :: (.int .i64 (v1:Int)) :: (.pointer (some ⟨D,0,none⟩)) :: (.int .i64 (v2:Int)) :: (undef) :: (.pointer (some ⟨D,0,none⟩)) :: (.int .i64 (v3:Int)) :: (undef) :: (undef) :: (.pointer (some ⟨D,0,none⟩)) :: (.int .i64 (v4:Int)) :: (.int .i64 (IntKind.i64.wrap (95+(v4:Int)))) :: (.pointer (some ⟨D,0,none⟩)) :: (undef) :: (undef) :: (undef) :: (undef) :: (undef) :: (undef) :: (undef) :: (undef) :: (undef) :: (undef) :: (undef) :: (undef) :: []).toArray,[]⟩ W:=by
 have hcell:=hR.cell
 have hlt:=hR.eG.lt
 refine wpAny_ready (rs:=[9,18]) (by kernel_rfl) (by simp) ?_
 refine AllReady.cons rfl (fun K hK=>?_) ?_
 ·simp only[ay,Tryz.f63]
  go_simp
  refine hK _ _ ?_
  have ja:v3<9:=by omega
  refine wpAny_take (i:=12) (v:=.pointer (some ⟨W.heap.size,v3,none⟩)) rfl (by kernel_rfl) (by kernel_rfl) (by kernel_rfl) (fun _ _ _ h=>HQ.2 _ _ _ _ _ h) (Or.inl ⟨by rfl,fun w=>by simp only[ay,Tryz.f63];go_simp⟩) ?_
  exact vX D ao len cap zs base P bv n acts w Q HQ v1 v2 v3 v4 _ Bo _ (hR.alloc _) hv1 hv2 hv3 hv4 (bC.new hR) (hO.alloc _)
 refine AllReady.cons rfl (fun K hK=>?_) ?_
 ·simp only[ay,Tryz.f63]
  go_wp2_with (go_at_call 35;refine (aY D ao len cap zs base P bv n acts w W _ hR (by decide) (by decide)).mono ?_;rintro e w' ⟨v5,rfl,hv5,hr,hk⟩)
  refine wpAny_take (i:=19) (v:=.int .i64 (IntKind.i64.wrap (1+(v5:Int)))) rfl (by kernel_rfl) (by kernel_rfl) (by kernel_rfl) (fun _ _ _ h=>HQ.2 _ _ _ _ _ h) (Or.inl ⟨by rfl,fun w=>by simp only[ay,Tryz.f63];go_simp⟩) ?_
  exact Be D ao len cap zs base P bv n acts w Q HQ v1 v2 v3 v4 v5 Bo w' hr hv1 hv2 hv3 hv4 hv5 (hO.bG hk)
 exact AllReady.nil
theorem AY(D:Nat)(ao:Option Addr)(len cap:Nat)(zs:Nat->Int)(base P bv n:Nat)(acts:Int)(w:World)(Q:Exit->Act->World->Prop)(HQ:dB D ao len cap zs base P bv n acts w Q)(v1 v2 v3 v4:Nat)(Bs:Nat)(Bo:Nat)(W:World)(hR:bM D ao len cap zs base P bv n acts w W)(hv1:(v1:Int)<4)(hv2:(v2:Int)<2)(hv3:(v3:Int)<9)(hv4:(v4:Int)<10)(hN:bC D W Bs)(hO:bf D w W Bo) :
 wpAny Tryz.prog .any ay Q 7 #[true,true,true,false,false,true,true,true,true,true,true,true,true,false,true,true,true,true,false,false,false,true,false] ⟨((.pointer (some ⟨P,0,none⟩)) :: (.pointer (some ⟨D,0,none⟩)) :: (undef) :: (undef) :: (.pointer (some ⟨w.heap.size,0,none⟩)) :: (.pointer (some ⟨Bo,0,none⟩)) :: (.pointer (some ⟨P,0,none⟩)) :: (.pointer (some ⟨P,0,none⟩)) :: (.pointer (some ⟨P,1,none⟩)) :: (undef) :: (undef) :: (.pointer (some ⟨D,0,none⟩)) :: (.int .i64 (v1:Int)) :: (.pointer (some ⟨D,0,none⟩)) :: (.int .i64 (v2:Int)) :: (.slice (some ⟨Bs,0,none⟩) 9 9) :: (.pointer (some ⟨D,0,none⟩)) :: (.int .i64 (v3:Int)) :: (.pointer (some ⟨Bs,v3,none⟩)) :: (undef) :: (.pointer (some ⟨D,0,none⟩)) :: (.int .i64 (v4:Int)) :: (.int .i64 (IntKind.i64.wrap (95+(v4:Int)))) :: (.pointer (some ⟨D,0,none⟩)) :: (undef) :: (undef) :: (undef) :: (undef) :: (undef) :: (undef) :: (undef) :: (undef) :: (undef) :: (undef) :: (undef) :: (undef) :: []).toArray,[]⟩ W:=by
 have hcell:=hR.cell
 have hlt:=hR.eG.lt
 have hcv:=hN.cells v3 (by omega)
 have hNl:=hN.lt
 have ja:v3<9:=by omega
 refine wpAny_ready (rs:=[3,13,18]) (by kernel_rfl) (by simp) ?_
 refine AllReady.cons rfl (fun K hK=>?_) ?_
 ·simp only[ay,Tryz.f63]
  go_simp
  refine hK _ _ ?_
  refine wpAny_take (i:=4) (v:=.int .i64 (IntKind.i64.wrap ((n:Int)+1))) rfl (by kernel_rfl) (by kernel_rfl) (by kernel_rfl) (fun _ _ _ h=>HQ.2 _ _ _ _ _ h) (Or.inl ⟨by rfl,fun w=>by simp only[ay,Tryz.f63];go_simp⟩) ?_
  exact vX D ao len cap zs base P bv n acts w Q HQ v1 v2 v3 v4 Bs Bo _ hR hv1 hv2 hv3 hv4 hN hO
 refine AllReady.cons rfl (fun K hK=>?_) ?_
 ·simp only[ay,Tryz.f63]
  go_simp
  refine hK _ _ ?_
  exact AZ D ao len cap zs base P bv n acts w Q HQ v1 v2 v3 v4 Bs Bo _ hR hv1 hv2 hv3 hv4 hN hO
 refine AllReady.cons rfl (fun K hK=>?_) ?_
 ·simp only[ay,Tryz.f63]
  go_wp2_with (go_at_call 35;refine (aY D ao len cap zs base P bv n acts w W _ hR (by decide) (by decide)).mono ?_;rintro e w' ⟨v5,rfl,hv5,hr,hk⟩)
  refine wpAny_take (i:=19) (v:=.int .i64 (IntKind.i64.wrap (1+(v5:Int)))) rfl (by kernel_rfl) (by kernel_rfl) (by kernel_rfl) (fun _ _ _ h=>HQ.2 _ _ _ _ _ h) (Or.inl ⟨by rfl,fun w=>by simp only[ay,Tryz.f63];go_simp⟩) ?_
  exact Bc D ao len cap zs base P bv n acts w Q HQ v1 v2 v3 v4 v5 Bs Bo w' hr hv1 hv2 hv3 hv4 hv5 (hN.bG hk) (hO.bG hk)
 exact AllReady.nil
theorem Ib(D:Nat)(ao:Option Addr)(len cap:Nat)(zs:Nat->Int)(base P bv n:Nat)(acts:Int)(w:World)(Q:Exit->Act->World->Prop)(HQ:dB D ao len cap zs base P bv n acts w Q)(v1 v2 v3 v4:Nat)(Bs:Nat)(W:World)(hR:bM D ao len cap zs base P bv n acts w W)(hv1:(v1:Int)<4)(hv2:(v2:Int)<2)(hv3:(v3:Int)<9)(hv4:(v4:Int)<10)(hN:bC D W Bs) :
 wpAny Tryz.prog .any ay Q 7 #[true,true,true,false,false,true,true,true,true,true,true,true,true,true,true,true,true,true,false,false,false,false,false] ⟨((.pointer (some ⟨P,0,none⟩)) :: (.pointer (some ⟨D,0,none⟩)) :: (undef) :: (undef) :: (.pointer (some ⟨w.heap.size,0,none⟩)) :: (undef) :: (.pointer (some ⟨P,0,none⟩)) :: (.pointer (some ⟨P,0,none⟩)) :: (.pointer (some ⟨P,1,none⟩)) :: (undef) :: (undef) :: (.pointer (some ⟨D,0,none⟩)) :: (.int .i64 (v1:Int)) :: (.pointer (some ⟨D,0,none⟩)) :: (.int .i64 (v2:Int)) :: (.slice (some ⟨Bs,0,none⟩) 9 9) :: (.pointer (some ⟨D,0,none⟩)) :: (.int .i64 (v3:Int)) :: (.pointer (some ⟨Bs,v3,none⟩)) :: (.int .i64 (fC v3)) :: (.pointer (some ⟨D,0,none⟩)) :: (.int .i64 (v4:Int)) :: (.int .i64 (IntKind.i64.wrap (95+(v4:Int)))) :: (.pointer (some ⟨D,0,none⟩)) :: (undef) :: (undef) :: (undef) :: (undef) :: (undef) :: (undef) :: (undef) :: (undef) :: (undef) :: (undef) :: (undef) :: (undef) :: []).toArray,[]⟩ W:=by
 have hcell:=hR.cell
 have hlt:=hR.eG.lt
 have hcv:=hN.cells v3 (by omega)
 have hNl:=hN.lt
 have ja:v3<9:=by omega
 refine wpAny_ready (rs:=[3,18,21]) (by kernel_rfl) (by simp) ?_
 refine AllReady.cons rfl (fun K hK=>?_) ?_
 ·simp only[ay,Tryz.f63]
  go_simp
  refine hK _ _ ?_
  refine wpAny_take (i:=4) (v:=.int .i64 (IntKind.i64.wrap ((n:Int)+1))) rfl (by kernel_rfl) (by kernel_rfl) (by kernel_rfl) (fun _ _ _ h=>HQ.2 _ _ _ _ _ h) (Or.inl ⟨by rfl,fun w=>by simp only[ay,Tryz.f63];go_simp⟩) ?_
  exact Ba D ao len cap zs base P bv n acts w Q HQ v1 v2 v3 v4 Bs _ hR hv1 hv2 hv3 hv4 hN
 refine AllReady.cons rfl (fun K hK=>?_) ?_
 ·simp only[ay,Tryz.f63]
  go_wp2_with (go_at_call 35;refine (aY D ao len cap zs base P bv n acts w W _ hR (by decide) (by decide)).mono ?_;rintro e w' ⟨v5,rfl,hv5,hr,hk⟩)
  refine wpAny_take (i:=19) (v:=.int .i64 (IntKind.i64.wrap (1+(v5:Int)))) rfl (by kernel_rfl) (by kernel_rfl) (by kernel_rfl) (fun _ _ _ h=>HQ.2 _ _ _ _ _ h) (Or.inl ⟨by rfl,fun w=>by simp only[ay,Tryz.f63];go_simp⟩) ?_
  exact Ih D ao len cap zs base P bv n acts w Q HQ v1 v2 v3 v4 v5 Bs w' hr hv1 hv2 hv3 hv4 hv5 (hN.bG hk)
 refine AllReady.cons rfl (fun K hK=>?_) ?_
 ·simp only[ay,Tryz.f63]
  go_simp
  refine hK _ _ ?_
  exact AZ D ao len cap zs base P bv n acts w Q HQ v1 v2 v3 v4 Bs _ _ (hR.alloc _) hv1 hv2 hv3 hv4 (hN.alloc _) (bf.make hR)
 exact AllReady.nil
theorem vW(D:Nat)(ao:Option Addr)(len cap:Nat)(zs:Nat->Int)(base P bv n:Nat)(acts:Int)(w:World)(Q:Exit->Act->World->Prop)(HQ:dB D ao len cap zs base P bv n acts w Q)(v1 v2 v3:Nat)(Bs:Nat)(Bo:Nat)(W:World)(hR:bM D ao len cap zs base P bv n acts w W)(hv1:(v1:Int)<4)(hv2:(v2:Int)<2)(hv3:(v3:Int)<9)(hN:bC D W Bs)(hO:bf D w W Bo) :
 wpAny Tryz.prog .any ay Q 7 #[true,true,true,true,true,true,true,true,true,true,true,true,true,false,true,false,false,true,false,false,false,true,false] ⟨((.pointer (some ⟨P,0,none⟩)) :: (.pointer (some ⟨D,0,none⟩)) :: (undef) :: (undef) :: (.pointer (some ⟨w.heap.size,0,none⟩)) :: (.pointer (some ⟨Bo,0,none⟩)) :: (.pointer (some ⟨P,0,none⟩)) :: (.pointer (some ⟨P,0,none⟩)) :: (.pointer (some ⟨P,1,none⟩)) :: (.int .i64 (n:Int)) :: (.int .i64 (IntKind.i64.wrap ((n:Int)+1))) :: (.pointer (some ⟨D,0,none⟩)) :: (.int .i64 (v1:Int)) :: (.pointer (some ⟨D,0,none⟩)) :: (.int .i64 (v2:Int)) :: (.slice (some ⟨Bs,0,none⟩) 9 9) :: (.pointer (some ⟨D,0,none⟩)) :: (.int .i64 (v3:Int)) :: (.pointer (some ⟨Bs,v3,none⟩)) :: (undef) :: (.pointer (some ⟨D,0,none⟩)) :: (undef) :: (undef) :: (.pointer (some ⟨D,0,none⟩)) :: (undef) :: (undef) :: (undef) :: (undef) :: (undef) :: (undef) :: (undef) :: (undef) :: (undef) :: (undef) :: (undef) :: (undef) :: []).toArray,[]⟩ W:=by
 have hcell:=hR.cell
 have hlt:=hR.eG.lt
 have hcv:=hN.cells v3 (by omega)
 have hNl:=hN.lt
 have ja:v3<9:=by omega
 refine wpAny_ready (rs:=[13,15]) (by kernel_rfl) (by simp) ?_
 refine AllReady.cons rfl (fun K hK=>?_) ?_
 ·simp only[ay,Tryz.f63]
  go_simp
  refine hK _ _ ?_
  exact AX D ao len cap zs base P bv n acts w Q HQ v1 v2 v3 Bs Bo _ hR hv1 hv2 hv3 hN hO
 refine AllReady.cons rfl (fun K hK=>?_) ?_
 ·simp only[ay,Tryz.f63]
  go_wp2_with (go_at_call 35;refine (aY D ao len cap zs base P bv n acts w W _ hR (by decide) (by decide)).mono ?_;rintro e w' ⟨v4,rfl,hv4,hr,hk⟩)
  refine wpAny_take (i:=16) (v:=.int .i64 (IntKind.i64.wrap (95+(v4:Int)))) rfl (by kernel_rfl) (by kernel_rfl) (by kernel_rfl) (fun _ _ _ h=>HQ.2 _ _ _ _ _ h) (Or.inl ⟨by rfl,fun w=>by simp only[ay,Tryz.f63];go_simp⟩) ?_
  exact vX D ao len cap zs base P bv n acts w Q HQ v1 v2 v3 v4 Bs Bo w' hr hv1 hv2 hv3 hv4 (hN.bG hk) (hO.bG hk)
 exact AllReady.nil
theorem H7(D:Nat)(ao:Option Addr)(len cap:Nat)(zs:Nat->Int)(base P bv n:Nat)(acts:Int)(w:World)(Q:Exit->Act->World->Prop)(HQ:dB D ao len cap zs base P bv n acts w Q)(v1 v2 v3:Nat)(Bs:Nat)(W:World)(hR:bM D ao len cap zs base P bv n acts w W)(hv1:(v1:Int)<4)(hv2:(v2:Int)<2)(hv3:(v3:Int)<9)(hN:bC D W Bs) :
 wpAny Tryz.prog .any ay Q 7 #[true,true,true,true,true,true,true,true,true,true,true,true,true,true,true,false,false,true,false,false,false,false,false] ⟨((.pointer (some ⟨P,0,none⟩)) :: (.pointer (some ⟨D,0,none⟩)) :: (undef) :: (undef) :: (.pointer (some ⟨w.heap.size,0,none⟩)) :: (undef) :: (.pointer (some ⟨P,0,none⟩)) :: (.pointer (some ⟨P,0,none⟩)) :: (.pointer (some ⟨P,1,none⟩)) :: (.int .i64 (n:Int)) :: (.int .i64 (IntKind.i64.wrap ((n:Int)+1))) :: (.pointer (some ⟨D,0,none⟩)) :: (.int .i64 (v1:Int)) :: (.pointer (some ⟨D,0,none⟩)) :: (.int .i64 (v2:Int)) :: (.slice (some ⟨Bs,0,none⟩) 9 9) :: (.pointer (some ⟨D,0,none⟩)) :: (.int .i64 (v3:Int)) :: (.pointer (some ⟨Bs,v3,none⟩)) :: (.int .i64 (fC v3)) :: (.pointer (some ⟨D,0,none⟩)) :: (undef) :: (undef) :: (.pointer (some ⟨D,0,none⟩)) :: (undef) :: (undef) :: (undef) :: (undef) :: (undef) :: (undef) :: (undef) :: (undef) :: (undef) :: (undef) :: (undef) :: (undef) :: []).toArray,[]⟩ W:=by
 have hcell:=hR.cell
 have hlt:=hR.eG.lt
 have hcv:=hN.cells v3 (by omega)
 have hNl:=hN.lt
 have ja:v3<9:=by omega
 refine wpAny_ready (rs:=[15,21]) (by kernel_rfl) (by simp) ?_
 refine AllReady.cons rfl (fun K hK=>?_) ?_
 ·simp only[ay,Tryz.f63]
  go_wp2_with (go_at_call 35;refine (aY D ao len cap zs base P bv n acts w W _ hR (by decide) (by decide)).mono ?_;rintro e w' ⟨v4,rfl,hv4,hr,hk⟩)
  refine wpAny_take (i:=16) (v:=.int .i64 (IntKind.i64.wrap (95+(v4:Int)))) rfl (by kernel_rfl) (by kernel_rfl) (by kernel_rfl) (fun _ _ _ h=>HQ.2 _ _ _ _ _ h) (Or.inl ⟨by rfl,fun w=>by simp only[ay,Tryz.f63];go_simp⟩) ?_
  exact Ba D ao len cap zs base P bv n acts w Q HQ v1 v2 v3 v4 Bs w' hr hv1 hv2 hv3 hv4 (hN.bG hk)
 refine AllReady.cons rfl (fun K hK=>?_) ?_
 ·simp only[ay,Tryz.f63]
  go_simp
  refine hK _ _ ?_
  exact AX D ao len cap zs base P bv n acts w Q HQ v1 v2 v3 Bs _ _ (hR.alloc _) hv1 hv2 hv3 (hN.alloc _) (bf.make hR)
 exact AllReady.nil
theorem Rj(D:Nat)(ao:Option Addr)(len cap:Nat)(zs:Nat->Int)(base P bv n:Nat)(acts:Int)(w:World)(Q:Exit->Act->World->Prop)(HQ:dB D ao len cap zs base P bv n acts w Q)(v1 v2 v3 v4 v5:Nat)(W:World)(hR:bM D ao len cap zs base P bv n acts w W)(hv1:(v1:Int)<4)(hv2:(v2:Int)<2)(hv3:(v3:Int)<9)(hv4:(v4:Int)<10)(hv5:(v5:Int)<9) :
 wpAny Tryz.prog .any ay Q 8 #[true,true,true,false,false,true,true,true,true,false,true,true,false,false,true,true,true,true,true,true,false,false,false] ⟨((.pointer (some ⟨P,0,none⟩)) :: (.pointer (some ⟨D,0,none⟩)) :: (undef) :: (undef) :: (.pointer (some ⟨w.heap.size,0,none⟩)) :: (undef) :: (.pointer (some ⟨P,0,none⟩)) :: (.pointer (some ⟨P,0,none⟩)) :: (.pointer (some ⟨P,1,none⟩)) :: (undef) :: (undef) :: (.pointer (some ⟨D,0,none⟩)) :: (.int .i64 (v1:Int)) :: (.pointer (some ⟨D,0,none⟩)) :: (.int .i64 (v2:Int)) :: (undef) :: (.pointer (some ⟨D,0,none⟩)) :: (.int .i64 (v3:Int)) :: (undef) :: (undef) :: (.pointer (some ⟨D,0,none⟩)) :: (.int .i64 (v4:Int)) :: (.int .i64 (IntKind.i64.wrap (95+(v4:Int)))) :: (.pointer (some ⟨D,0,none⟩)) :: (.int .i64 (v5:Int)) :: (.int .i64 (IntKind.i64.wrap (1+(v5:Int)))) :: (undef) :: (undef) :: (undef) :: (undef) :: (undef) :: (undef) :: (undef) :: (undef) :: (undef) :: (undef) :: []).toArray,[]⟩ W:=by
 have hcell:=hR.cell
 have hlt:=hR.eG.lt
 refine wpAny_ready (rs:=[3,9,21]) (by kernel_rfl) (by simp) ?_
 refine AllReady.cons rfl (fun K hK=>?_) ?_
 ·simp only[ay,Tryz.f63]
  go_simp
  refine hK _ _ ?_
  refine wpAny_take (i:=4) (v:=.int .i64 (IntKind.i64.wrap ((n:Int)+1))) rfl (by kernel_rfl) (by kernel_rfl) (by kernel_rfl) (fun _ _ _ h=>HQ.2 _ _ _ _ _ h) (Or.inl ⟨by rfl,fun w=>by simp only[ay,Tryz.f63];go_simp⟩) ?_
  exact Ii D ao len cap zs base P bv n acts w Q HQ v1 v2 v3 v4 v5 _ hR hv1 hv2 hv3 hv4 hv5
 refine AllReady.cons rfl (fun K hK=>?_) ?_
 ·simp only[ay,Tryz.f63]
  go_simp
  refine hK _ _ ?_
  have ja:v3<9:=by omega
  refine wpAny_take (i:=12) (v:=.pointer (some ⟨W.heap.size,v3,none⟩)) rfl (by kernel_rfl) (by kernel_rfl) (by kernel_rfl) (fun _ _ _ h=>HQ.2 _ _ _ _ _ h) (Or.inl ⟨by rfl,fun w=>by simp only[ay,Tryz.f63];go_simp⟩) ?_
  exact Ig D ao len cap zs base P bv n acts w Q HQ v1 v2 v3 v4 v5 _ _ (hR.alloc _) hv1 hv2 hv3 hv4 hv5 (bC.new hR)
 refine AllReady.cons rfl (fun K hK=>?_) ?_
 ·simp only[ay,Tryz.f63]
  go_simp
  refine hK _ _ ?_
  exact Ie D ao len cap zs base P bv n acts w Q HQ v1 v2 v3 v4 v5 _ _ (hR.alloc _) hv1 hv2 hv3 hv4 hv5 (bf.make hR)
 exact AllReady.nil
theorem Ic(D:Nat)(ao:Option Addr)(len cap:Nat)(zs:Nat->Int)(base P bv n:Nat)(acts:Int)(w:World)(Q:Exit->Act->World->Prop)(HQ:dB D ao len cap zs base P bv n acts w Q)(v1 v2 v3 v4:Nat)(W:World)(hR:bM D ao len cap zs base P bv n acts w W)(hv1:(v1:Int)<4)(hv2:(v2:Int)<2)(hv3:(v3:Int)<9)(hv4:(v4:Int)<10) :
 wpAny Tryz.prog .any ay Q 8 #[true,true,true,true,true,true,true,true,true,false,true,true,false,false,true,true,true,true,false,false,false,false,false] ⟨((.pointer (some ⟨P,0,none⟩)) :: (.pointer (some ⟨D,0,none⟩)) :: (undef) :: (undef) :: (.pointer (some ⟨w.heap.size,0,none⟩)) :: (undef) :: (.pointer (some ⟨P,0,none⟩)) :: (.pointer (some ⟨P,0,none⟩)) :: (.pointer (some ⟨P,1,none⟩)) :: (.int .i64 (n:Int)) :: (.int .i64 (IntKind.i64.wrap ((n:Int)+1))) :: (.pointer (some ⟨D,0,none⟩)) :: (.int .i64 (v1:Int)) :: (.pointer (some ⟨D,0,none⟩)) :: (.int .i64 (v2:Int)) :: (undef) :: (.pointer (some ⟨D,0,none⟩)) :: (.int .i64 (v3:Int)) :: (undef) :: (undef) :: (.pointer (some ⟨D,0,none⟩)) :: (.int .i64 (v4:Int)) :: (.int .i64 (IntKind.i64.wrap (95+(v4:Int)))) :: (.pointer (some ⟨D,0,none⟩)) :: (undef) :: (undef) :: (undef) :: (undef) :: (undef) :: (undef) :: (undef) :: (undef) :: (undef) :: (undef) :: (undef) :: (undef) :: []).toArray,[]⟩ W:=by
 have hcell:=hR.cell
 have hlt:=hR.eG.lt
 refine wpAny_ready (rs:=[9,18,21]) (by kernel_rfl) (by simp) ?_
 refine AllReady.cons rfl (fun K hK=>?_) ?_
 ·simp only[ay,Tryz.f63]
  go_simp
  refine hK _ _ ?_
  have ja:v3<9:=by omega
  refine wpAny_take (i:=12) (v:=.pointer (some ⟨W.heap.size,v3,none⟩)) rfl (by kernel_rfl) (by kernel_rfl) (by kernel_rfl) (fun _ _ _ h=>HQ.2 _ _ _ _ _ h) (Or.inl ⟨by rfl,fun w=>by simp only[ay,Tryz.f63];go_simp⟩) ?_
  exact A8 D ao len cap zs base P bv n acts w Q HQ v1 v2 v3 v4 _ _ (hR.alloc _) hv1 hv2 hv3 hv4 (bC.new hR)
 refine AllReady.cons rfl (fun K hK=>?_) ?_
 ·simp only[ay,Tryz.f63]
  go_wp2_with (go_at_call 35;refine (aY D ao len cap zs base P bv n acts w W _ hR (by decide) (by decide)).mono ?_;rintro e w' ⟨v5,rfl,hv5,hr,hk⟩)
  refine wpAny_take (i:=19) (v:=.int .i64 (IntKind.i64.wrap (1+(v5:Int)))) rfl (by kernel_rfl) (by kernel_rfl) (by kernel_rfl) (fun _ _ _ h=>HQ.2 _ _ _ _ _ h) (Or.inl ⟨by rfl,fun w=>by simp only[ay,Tryz.f63];go_simp⟩) ?_
  exact Ii D ao len cap zs base P bv n acts w Q HQ v1 v2 v3 v4 v5 w' hr hv1 hv2 hv3 hv4 hv5
 refine AllReady.cons rfl (fun K hK=>?_) ?_
 ·simp only[ay,Tryz.f63]
  go_simp
  refine hK _ _ ?_
  exact A7 D ao len cap zs base P bv n acts w Q HQ v1 v2 v3 v4 _ _ (hR.alloc _) hv1 hv2 hv3 hv4 (bf.make hR)
 exact AllReady.nil
theorem Ia(D:Nat)(ao:Option Addr)(len cap:Nat)(zs:Nat->Int)(base P bv n:Nat)(acts:Int)(w:World)(Q:Exit->Act->World->Prop)(HQ:dB D ao len cap zs base P bv n acts w Q)(v1 v2 v3 v4:Nat)(Bs:Nat)(W:World)(hR:bM D ao len cap zs base P bv n acts w W)(hv1:(v1:Int)<4)(hv2:(v2:Int)<2)(hv3:(v3:Int)<9)(hv4:(v4:Int)<10)(hN:bC D W Bs) :
 wpAny Tryz.prog .any ay Q 8 #[true,true,true,false,false,true,true,true,true,true,true,true,true,false,true,true,true,true,false,false,false,false,false] ⟨((.pointer (some ⟨P,0,none⟩)) :: (.pointer (some ⟨D,0,none⟩)) :: (undef) :: (undef) :: (.pointer (some ⟨w.heap.size,0,none⟩)) :: (undef) :: (.pointer (some ⟨P,0,none⟩)) :: (.pointer (some ⟨P,0,none⟩)) :: (.pointer (some ⟨P,1,none⟩)) :: (undef) :: (undef) :: (.pointer (some ⟨D,0,none⟩)) :: (.int .i64 (v1:Int)) :: (.pointer (some ⟨D,0,none⟩)) :: (.int .i64 (v2:Int)) :: (.slice (some ⟨Bs,0,none⟩) 9 9) :: (.pointer (some ⟨D,0,none⟩)) :: (.int .i64 (v3:Int)) :: (.pointer (some ⟨Bs,v3,none⟩)) :: (undef) :: (.pointer (some ⟨D,0,none⟩)) :: (.int .i64 (v4:Int)) :: (.int .i64 (IntKind.i64.wrap (95+(v4:Int)))) :: (.pointer (some ⟨D,0,none⟩)) :: (undef) :: (undef) :: (undef) :: (undef) :: (undef) :: (undef) :: (undef) :: (undef) :: (undef) :: (undef) :: (undef) :: (undef) :: []).toArray,[]⟩ W:=by
 have hcell:=hR.cell
 have hlt:=hR.eG.lt
 have hcv:=hN.cells v3 (by omega)
 have hNl:=hN.lt
 have ja:v3<9:=by omega
 refine wpAny_ready (rs:=[3,13,18,21]) (by kernel_rfl) (by simp) ?_
 refine AllReady.cons rfl (fun K hK=>?_) ?_
 ·simp only[ay,Tryz.f63]
  go_simp
  refine hK _ _ ?_
  refine wpAny_take (i:=4) (v:=.int .i64 (IntKind.i64.wrap ((n:Int)+1))) rfl (by kernel_rfl) (by kernel_rfl) (by kernel_rfl) (fun _ _ _ h=>HQ.2 _ _ _ _ _ h) (Or.inl ⟨by rfl,fun w=>by simp only[ay,Tryz.f63];go_simp⟩) ?_
  exact A8 D ao len cap zs base P bv n acts w Q HQ v1 v2 v3 v4 Bs _ hR hv1 hv2 hv3 hv4 hN
 refine AllReady.cons rfl (fun K hK=>?_) ?_
 ·simp only[ay,Tryz.f63]
  go_simp
  refine hK _ _ ?_
  exact Ib D ao len cap zs base P bv n acts w Q HQ v1 v2 v3 v4 Bs _ hR hv1 hv2 hv3 hv4 hN
 refine AllReady.cons rfl (fun K hK=>?_) ?_
 ·simp only[ay,Tryz.f63]
  go_wp2_with (go_at_call 35;refine (aY D ao len cap zs base P bv n acts w W _ hR (by decide) (by decide)).mono ?_;rintro e w' ⟨v5,rfl,hv5,hr,hk⟩)
  refine wpAny_take (i:=19) (v:=.int .i64 (IntKind.i64.wrap (1+(v5:Int)))) rfl (by kernel_rfl) (by kernel_rfl) (by kernel_rfl) (fun _ _ _ h=>HQ.2 _ _ _ _ _ h) (Or.inl ⟨by rfl,fun w=>by simp only[ay,Tryz.f63];go_simp⟩) ?_
  exact Ig D ao len cap zs base P bv n acts w Q HQ v1 v2 v3 v4 v5 Bs w' hr hv1 hv2 hv3 hv4 hv5 (hN.bG hk)
 refine AllReady.cons rfl (fun K hK=>?_) ?_
 ·simp only[ay,Tryz.f63]
  go_simp
  refine hK _ _ ?_
  exact AY D ao len cap zs base P bv n acts w Q HQ v1 v2 v3 v4 Bs _ _ (hR.alloc _) hv1 hv2 hv3 hv4 (hN.alloc _) (bf.make hR)
 exact AllReady.nil
theorem AV(D:Nat)(ao:Option Addr)(len cap:Nat)(zs:Nat->Int)(base P bv n:Nat)(acts:Int)(w:World)(Q:Exit->Act->World->Prop)(HQ:dB D ao len cap zs base P bv n acts w Q)(v1 v2 v3:Nat)(Bs:Nat)(W:World)(hR:bM D ao len cap zs base P bv n acts w W)(hv1:(v1:Int)<4)(hv2:(v2:Int)<2)(hv3:(v3:Int)<9)(hN:bC D W Bs) :
 wpAny Tryz.prog .any ay Q 8 #[true,true,true,true,true,true,true,true,true,true,true,true,true,false,true,false,false,true,false,false,false,false,false] ⟨((.pointer (some ⟨P,0,none⟩)) :: (.pointer (some ⟨D,0,none⟩)) :: (undef) :: (undef) :: (.pointer (some ⟨w.heap.size,0,none⟩)) :: (undef) :: (.pointer (some ⟨P,0,none⟩)) :: (.pointer (some ⟨P,0,none⟩)) :: (.pointer (some ⟨P,1,none⟩)) :: (.int .i64 (n:Int)) :: (.int .i64 (IntKind.i64.wrap ((n:Int)+1))) :: (.pointer (some ⟨D,0,none⟩)) :: (.int .i64 (v1:Int)) :: (.pointer (some ⟨D,0,none⟩)) :: (.int .i64 (v2:Int)) :: (.slice (some ⟨Bs,0,none⟩) 9 9) :: (.pointer (some ⟨D,0,none⟩)) :: (.int .i64 (v3:Int)) :: (.pointer (some ⟨Bs,v3,none⟩)) :: (undef) :: (.pointer (some ⟨D,0,none⟩)) :: (undef) :: (undef) :: (.pointer (some ⟨D,0,none⟩)) :: (undef) :: (undef) :: (undef) :: (undef) :: (undef) :: (undef) :: (undef) :: (undef) :: (undef) :: (undef) :: (undef) :: (undef) :: []).toArray,[]⟩ W:=by
 have hcell:=hR.cell
 have hlt:=hR.eG.lt
 have hcv:=hN.cells v3 (by omega)
 have hNl:=hN.lt
 have ja:v3<9:=by omega
 refine wpAny_ready (rs:=[13,15,21]) (by kernel_rfl) (by simp) ?_
 refine AllReady.cons rfl (fun K hK=>?_) ?_
 ·simp only[ay,Tryz.f63]
  go_simp
  refine hK _ _ ?_
  exact H7 D ao len cap zs base P bv n acts w Q HQ v1 v2 v3 Bs _ hR hv1 hv2 hv3 hN
 refine AllReady.cons rfl (fun K hK=>?_) ?_
 ·simp only[ay,Tryz.f63]
  go_wp2_with (go_at_call 35;refine (aY D ao len cap zs base P bv n acts w W _ hR (by decide) (by decide)).mono ?_;rintro e w' ⟨v4,rfl,hv4,hr,hk⟩)
  refine wpAny_take (i:=16) (v:=.int .i64 (IntKind.i64.wrap (95+(v4:Int)))) rfl (by kernel_rfl) (by kernel_rfl) (by kernel_rfl) (fun _ _ _ h=>HQ.2 _ _ _ _ _ h) (Or.inl ⟨by rfl,fun w=>by simp only[ay,Tryz.f63];go_simp⟩) ?_
  exact A8 D ao len cap zs base P bv n acts w Q HQ v1 v2 v3 v4 Bs w' hr hv1 hv2 hv3 hv4 (hN.bG hk)
 refine AllReady.cons rfl (fun K hK=>?_) ?_
 ·simp only[ay,Tryz.f63]
  go_simp
  refine hK _ _ ?_
  exact vW D ao len cap zs base P bv n acts w Q HQ v1 v2 v3 Bs _ _ (hR.alloc _) hv1 hv2 hv3 (hN.alloc _) (bf.make hR)
 exact AllReady.nil
theorem Hy(D:Nat)(ao:Option Addr)(len cap:Nat)(zs:Nat->Int)(base P bv n:Nat)(acts:Int)(w:World)(Q:Exit->Act->World->Prop)(HQ:dB D ao len cap zs base P bv n acts w Q)(v1 v2 v3:Nat)(Bs:Nat)(Bo:Nat)(W:World)(hR:bM D ao len cap zs base P bv n acts w W)(hv1:(v1:Int)<4)(hv2:(v2:Int)<2)(hv3:(v3:Int)<9)(hN:bC D W Bs)(hO:bf D w W Bo) :
 wpAny Tryz.prog .any ay Q 8 #[true,true,true,false,false,true,true,true,true,true,true,true,true,true,true,false,false,true,false,false,false,true,false] ⟨((.pointer (some ⟨P,0,none⟩)) :: (.pointer (some ⟨D,0,none⟩)) :: (undef) :: (undef) :: (.pointer (some ⟨w.heap.size,0,none⟩)) :: (.pointer (some ⟨Bo,0,none⟩)) :: (.pointer (some ⟨P,0,none⟩)) :: (.pointer (some ⟨P,0,none⟩)) :: (.pointer (some ⟨P,1,none⟩)) :: (undef) :: (undef) :: (.pointer (some ⟨D,0,none⟩)) :: (.int .i64 (v1:Int)) :: (.pointer (some ⟨D,0,none⟩)) :: (.int .i64 (v2:Int)) :: (.slice (some ⟨Bs,0,none⟩) 9 9) :: (.pointer (some ⟨D,0,none⟩)) :: (.int .i64 (v3:Int)) :: (.pointer (some ⟨Bs,v3,none⟩)) :: (.int .i64 (fC v3)) :: (.pointer (some ⟨D,0,none⟩)) :: (undef) :: (undef) :: (.pointer (some ⟨D,0,none⟩)) :: (undef) :: (undef) :: (undef) :: (undef) :: (undef) :: (undef) :: (undef) :: (undef) :: (undef) :: (undef) :: (undef) :: (undef) :: []).toArray,[]⟩ W:=by
 have hcell:=hR.cell
 have hlt:=hR.eG.lt
 have hcv:=hN.cells v3 (by omega)
 have hNl:=hN.lt
 have ja:v3<9:=by omega
 refine wpAny_ready (rs:=[3,15]) (by kernel_rfl) (by simp) ?_
 refine AllReady.cons rfl (fun K hK=>?_) ?_
 ·simp only[ay,Tryz.f63]
  go_simp
  refine hK _ _ ?_
  refine wpAny_take (i:=4) (v:=.int .i64 (IntKind.i64.wrap ((n:Int)+1))) rfl (by kernel_rfl) (by kernel_rfl) (by kernel_rfl) (fun _ _ _ h=>HQ.2 _ _ _ _ _ h) (Or.inl ⟨by rfl,fun w=>by simp only[ay,Tryz.f63];go_simp⟩) ?_
  exact AX D ao len cap zs base P bv n acts w Q HQ v1 v2 v3 Bs Bo _ hR hv1 hv2 hv3 hN hO
 refine AllReady.cons rfl (fun K hK=>?_) ?_
 ·simp only[ay,Tryz.f63]
  go_wp2_with (go_at_call 35;refine (aY D ao len cap zs base P bv n acts w W _ hR (by decide) (by decide)).mono ?_;rintro e w' ⟨v4,rfl,hv4,hr,hk⟩)
  refine wpAny_take (i:=16) (v:=.int .i64 (IntKind.i64.wrap (95+(v4:Int)))) rfl (by kernel_rfl) (by kernel_rfl) (by kernel_rfl) (fun _ _ _ h=>HQ.2 _ _ _ _ _ h) (Or.inl ⟨by rfl,fun w=>by simp only[ay,Tryz.f63];go_simp⟩) ?_
  exact AZ D ao len cap zs base P bv n acts w Q HQ v1 v2 v3 v4 Bs Bo w' hr hv1 hv2 hv3 hv4 (hN.bG hk) (hO.bG hk)
 exact AllReady.nil
theorem H8(D:Nat)(ao:Option Addr)(len cap:Nat)(zs:Nat->Int)(base P bv n:Nat)(acts:Int)(w:World)(Q:Exit->Act->World->Prop)(HQ:dB D ao len cap zs base P bv n acts w Q)(v1 v2 v3 v4:Nat)(Bo:Nat)(W:World)(hR:bM D ao len cap zs base P bv n acts w W)(hv1:(v1:Int)<4)(hv2:(v2:Int)<2)(hv3:(v3:Int)<9)(hv4:(v4:Int)<10)(hO:bf D w W Bo) :
 wpAny Tryz.prog .any ay Q 9 #[true,true,true,false,false,true,true,true,true,false,true,true,false,false,true,true,true,true,false,false,false,true,false] ⟨((.pointer (some ⟨P,0,none⟩)) :: (.pointer (some ⟨D,0,none⟩)) :: (undef) :: (undef) :: (.pointer (some ⟨w.heap.size,0,none⟩)) :: (.pointer (some ⟨Bo,0,none⟩)) :: (.pointer (some ⟨P,0,none⟩)) :: (.pointer (some ⟨P,0,none⟩)) :: (.pointer (some ⟨P,1,none⟩)) :: (undef) :: (undef) :: (.pointer (some ⟨D,0,none⟩)) :: (.int .i64 (v1:Int)) :: (.pointer (some ⟨D,0,none⟩)) :: (.int .i64 (v2:Int)) :: (undef) :: (.pointer (some ⟨D,0,none⟩)) :: (.int .i64 (v3:Int)) :: (undef) :: (undef) :: (.pointer (some ⟨D,0,none⟩)) :: (.int .i64 (v4:Int)) :: (.int .i64 (IntKind.i64.wrap (95+(v4:Int)))) :: (.pointer (some ⟨D,0,none⟩)) :: (undef) :: (undef) :: (undef) :: (undef) :: (undef) :: (undef) :: (undef) :: (undef) :: (undef) :: (undef) :: (undef) :: (undef) :: []).toArray,[]⟩ W:=by
 have hcell:=hR.cell
 have hlt:=hR.eG.lt
 refine wpAny_ready (rs:=[3,9,18]) (by kernel_rfl) (by simp) ?_
 refine AllReady.cons rfl (fun K hK=>?_) ?_
 ·simp only[ay,Tryz.f63]
  go_simp
  refine hK _ _ ?_
  refine wpAny_take (i:=4) (v:=.int .i64 (IntKind.i64.wrap ((n:Int)+1))) rfl (by kernel_rfl) (by kernel_rfl) (by kernel_rfl) (fun _ _ _ h=>HQ.2 _ _ _ _ _ h) (Or.inl ⟨by rfl,fun w=>by simp only[ay,Tryz.f63];go_simp⟩) ?_
  exact A7 D ao len cap zs base P bv n acts w Q HQ v1 v2 v3 v4 Bo _ hR hv1 hv2 hv3 hv4 hO
 refine AllReady.cons rfl (fun K hK=>?_) ?_
 ·simp only[ay,Tryz.f63]
  go_simp
  refine hK _ _ ?_
  have ja:v3<9:=by omega
  refine wpAny_take (i:=12) (v:=.pointer (some ⟨W.heap.size,v3,none⟩)) rfl (by kernel_rfl) (by kernel_rfl) (by kernel_rfl) (fun _ _ _ h=>HQ.2 _ _ _ _ _ h) (Or.inl ⟨by rfl,fun w=>by simp only[ay,Tryz.f63];go_simp⟩) ?_
  exact AY D ao len cap zs base P bv n acts w Q HQ v1 v2 v3 v4 _ Bo _ (hR.alloc _) hv1 hv2 hv3 hv4 (bC.new hR) (hO.alloc _)
 refine AllReady.cons rfl (fun K hK=>?_) ?_
 ·simp only[ay,Tryz.f63]
  go_wp2_with (go_at_call 35;refine (aY D ao len cap zs base P bv n acts w W _ hR (by decide) (by decide)).mono ?_;rintro e w' ⟨v5,rfl,hv5,hr,hk⟩)
  refine wpAny_take (i:=19) (v:=.int .i64 (IntKind.i64.wrap (1+(v5:Int)))) rfl (by kernel_rfl) (by kernel_rfl) (by kernel_rfl) (fun _ _ _ h=>HQ.2 _ _ _ _ _ h) (Or.inl ⟨by rfl,fun w=>by simp only[ay,Tryz.f63];go_simp⟩) ?_
  exact Ie D ao len cap zs base P bv n acts w Q HQ v1 v2 v3 v4 v5 Bo w' hr hv1 hv2 hv3 hv4 hv5 (hO.bG hk)
 exact AllReady.nil
theorem AQ(D:Nat)(ao:Option Addr)(len cap:Nat)(zs:Nat->Int)(base P bv n:Nat)(acts:Int)(w:World)(Q:Exit->Act->World->Prop)(HQ:dB D ao len cap zs base P bv n acts w Q)(v1 v2 v3:Nat)(Bo:Nat)(W:World)(hR:bM D ao len cap zs base P bv n acts w W)(hv1:(v1:Int)<4)(hv2:(v2:Int)<2)(hv3:(v3:Int)<9)(hO:bf D w W Bo) :
 wpAny Tryz.prog .any ay Q 9 #[true,true,true,true,true,true,true,true,true,false,true,true,false,false,true,false,false,true,false,false,false,true,false] ⟨((.pointer (some ⟨P,0,none⟩)) :: (.pointer (some ⟨D,0,none⟩)) :: (undef) :: (undef) :: (.pointer (some ⟨w.heap.size,0,none⟩)) :: (.pointer (some ⟨Bo,0,none⟩)) :: (.pointer (some ⟨P,0,none⟩)) :: (.pointer (some ⟨P,0,none⟩)) :: (.pointer (some ⟨P,1,none⟩)) :: (.int .i64 (n:Int)) :: (.int .i64 (IntKind.i64.wrap ((n:Int)+1))) :: (.pointer (some ⟨D,0,none⟩)) :: (.int .i64 (v1:Int)) :: (.pointer (some ⟨D,0,none⟩)) :: (.int .i64 (v2:Int)) :: (undef) :: (.pointer (some ⟨D,0,none⟩)) :: (.int .i64 (v3:Int)) :: (undef) :: (undef) :: (.pointer (some ⟨D,0,none⟩)) :: (undef) :: (undef) :: (.pointer (some ⟨D,0,none⟩)) :: (undef) :: (undef) :: (undef) :: (undef) :: (undef) :: (undef) :: (undef) :: (undef) :: (undef) :: (undef) :: (undef) :: (undef) :: []).toArray,[]⟩ W:=by
 have hcell:=hR.cell
 have hlt:=hR.eG.lt
 refine wpAny_ready (rs:=[9,15]) (by kernel_rfl) (by simp) ?_
 refine AllReady.cons rfl (fun K hK=>?_) ?_
 ·simp only[ay,Tryz.f63]
  go_simp
  refine hK _ _ ?_
  have ja:v3<9:=by omega
  refine wpAny_take (i:=12) (v:=.pointer (some ⟨W.heap.size,v3,none⟩)) rfl (by kernel_rfl) (by kernel_rfl) (by kernel_rfl) (fun _ _ _ h=>HQ.2 _ _ _ _ _ h) (Or.inl ⟨by rfl,fun w=>by simp only[ay,Tryz.f63];go_simp⟩) ?_
  exact vW D ao len cap zs base P bv n acts w Q HQ v1 v2 v3 _ Bo _ (hR.alloc _) hv1 hv2 hv3 (bC.new hR) (hO.alloc _)
 refine AllReady.cons rfl (fun K hK=>?_) ?_
 ·simp only[ay,Tryz.f63]
  go_wp2_with (go_at_call 35;refine (aY D ao len cap zs base P bv n acts w W _ hR (by decide) (by decide)).mono ?_;rintro e w' ⟨v4,rfl,hv4,hr,hk⟩)
  refine wpAny_take (i:=16) (v:=.int .i64 (IntKind.i64.wrap (95+(v4:Int)))) rfl (by kernel_rfl) (by kernel_rfl) (by kernel_rfl) (fun _ _ _ h=>HQ.2 _ _ _ _ _ h) (Or.inl ⟨by rfl,fun w=>by simp only[ay,Tryz.f63];go_simp⟩) ?_
  exact A7 D ao len cap zs base P bv n acts w Q HQ v1 v2 v3 v4 Bo w' hr hv1 hv2 hv3 hv4 (hO.bG hk)
 exact AllReady.nil
theorem AP(D:Nat)(ao:Option Addr)(len cap:Nat)(zs:Nat->Int)(base P bv n:Nat)(acts:Int)(w:World)(Q:Exit->Act->World->Prop)(HQ:dB D ao len cap zs base P bv n acts w Q)(v1 v2 v3:Nat)(Bs:Nat)(Bo:Nat)(W:World)(hR:bM D ao len cap zs base P bv n acts w W)(hv1:(v1:Int)<4)(hv2:(v2:Int)<2)(hv3:(v3:Int)<9)(hN:bC D W Bs)(hO:bf D w W Bo) :
 wpAny Tryz.prog .any ay Q 9 #[true,true,true,false,false,true,true,true,true,true,true,true,true,false,true,false,false,true,false,false,false,true,false] ⟨((.pointer (some ⟨P,0,none⟩)) :: (.pointer (some ⟨D,0,none⟩)) :: (undef) :: (undef) :: (.pointer (some ⟨w.heap.size,0,none⟩)) :: (.pointer (some ⟨Bo,0,none⟩)) :: (.pointer (some ⟨P,0,none⟩)) :: (.pointer (some ⟨P,0,none⟩)) :: (.pointer (some ⟨P,1,none⟩)) :: (undef) :: (undef) :: (.pointer (some ⟨D,0,none⟩)) :: (.int .i64 (v1:Int)) :: (.pointer (some ⟨D,0,none⟩)) :: (.int .i64 (v2:Int)) :: (.slice (some ⟨Bs,0,none⟩) 9 9) :: (.pointer (some ⟨D,0,none⟩)) :: (.int .i64 (v3:Int)) :: (.pointer (some ⟨Bs,v3,none⟩)) :: (undef) :: (.pointer (some ⟨D,0,none⟩)) :: (undef) :: (undef) :: (.pointer (some ⟨D,0,none⟩)) :: (undef) :: (undef) :: (undef) :: (undef) :: (undef) :: (undef) :: (undef) :: (undef) :: (undef) :: (undef) :: (undef) :: (undef) :: []).toArray,[]⟩ W:=by
 have hcell:=hR.cell
 have hlt:=hR.eG.lt
 have hcv:=hN.cells v3 (by omega)
 have hNl:=hN.lt
 have ja:v3<9:=by omega
 refine wpAny_ready (rs:=[3,13,15]) (by kernel_rfl) (by simp) ?_
 refine AllReady.cons rfl (fun K hK=>?_) ?_
 ·simp only[ay,Tryz.f63]
  go_simp
  refine hK _ _ ?_
  refine wpAny_take (i:=4) (v:=.int .i64 (IntKind.i64.wrap ((n:Int)+1))) rfl (by kernel_rfl) (by kernel_rfl) (by kernel_rfl) (fun _ _ _ h=>HQ.2 _ _ _ _ _ h) (Or.inl ⟨by rfl,fun w=>by simp only[ay,Tryz.f63];go_simp⟩) ?_
  exact vW D ao len cap zs base P bv n acts w Q HQ v1 v2 v3 Bs Bo _ hR hv1 hv2 hv3 hN hO
 refine AllReady.cons rfl (fun K hK=>?_) ?_
 ·simp only[ay,Tryz.f63]
  go_simp
  refine hK _ _ ?_
  exact Hy D ao len cap zs base P bv n acts w Q HQ v1 v2 v3 Bs Bo _ hR hv1 hv2 hv3 hN hO
 refine AllReady.cons rfl (fun K hK=>?_) ?_
 ·simp only[ay,Tryz.f63]
  go_wp2_with (go_at_call 35;refine (aY D ao len cap zs base P bv n acts w W _ hR (by decide) (by decide)).mono ?_;rintro e w' ⟨v4,rfl,hv4,hr,hk⟩)
  refine wpAny_take (i:=16) (v:=.int .i64 (IntKind.i64.wrap (95+(v4:Int)))) rfl (by kernel_rfl) (by kernel_rfl) (by kernel_rfl) (fun _ _ _ h=>HQ.2 _ _ _ _ _ h) (Or.inl ⟨by rfl,fun w=>by simp only[ay,Tryz.f63];go_simp⟩) ?_
  exact AY D ao len cap zs base P bv n acts w Q HQ v1 v2 v3 v4 Bs Bo w' hr hv1 hv2 hv3 hv4 (hN.bG hk) (hO.bG hk)
 exact AllReady.nil
theorem Rh(D:Nat)(ao:Option Addr)(len cap:Nat)(zs:Nat->Int)(base P bv n:Nat)(acts:Int)(w:World)(Q:Exit->Act->World->Prop)(HQ:dB D ao len cap zs base P bv n acts w Q)(v1 v2 v3:Nat)(Bs:Nat)(W:World)(hR:bM D ao len cap zs base P bv n acts w W)(hv1:(v1:Int)<4)(hv2:(v2:Int)<2)(hv3:(v3:Int)<9)(hN:bC D W Bs) :
 wpAny Tryz.prog .any ay Q 9 #[true,true,true,false,false,true,true,true,true,true,true,true,true,true,true,false,false,true,false,false,false,false,false] ⟨((.pointer (some ⟨P,0,none⟩)) :: (.pointer (some ⟨D,0,none⟩)) :: (undef) :: (undef) :: (.pointer (some ⟨w.heap.size,0,none⟩)) :: (undef) :: (.pointer (some ⟨P,0,none⟩)) :: (.pointer (some ⟨P,0,none⟩)) :: (.pointer (some ⟨P,1,none⟩)) :: (undef) :: (undef) :: (.pointer (some ⟨D,0,none⟩)) :: (.int .i64 (v1:Int)) :: (.pointer (some ⟨D,0,none⟩)) :: (.int .i64 (v2:Int)) :: (.slice (some ⟨Bs,0,none⟩) 9 9) :: (.pointer (some ⟨D,0,none⟩)) :: (.int .i64 (v3:Int)) :: (.pointer (some ⟨Bs,v3,none⟩)) :: (.int .i64 (fC v3)) :: (.pointer (some ⟨D,0,none⟩)) :: (undef) :: (undef) :: (.pointer (some ⟨D,0,none⟩)) :: (undef) :: (undef) :: (undef) :: (undef) :: (undef) :: (undef) :: (undef) :: (undef) :: (undef) :: (undef) :: (undef) :: (undef) :: []).toArray,[]⟩ W:=by
 have hcell:=hR.cell
 have hlt:=hR.eG.lt
 have hcv:=hN.cells v3 (by omega)
 have hNl:=hN.lt
 have ja:v3<9:=by omega
 refine wpAny_ready (rs:=[3,15,21]) (by kernel_rfl) (by simp) ?_
 refine AllReady.cons rfl (fun K hK=>?_) ?_
 ·simp only[ay,Tryz.f63]
  go_simp
  refine hK _ _ ?_
  refine wpAny_take (i:=4) (v:=.int .i64 (IntKind.i64.wrap ((n:Int)+1))) rfl (by kernel_rfl) (by kernel_rfl) (by kernel_rfl) (fun _ _ _ h=>HQ.2 _ _ _ _ _ h) (Or.inl ⟨by rfl,fun w=>by simp only[ay,Tryz.f63];go_simp⟩) ?_
  exact H7 D ao len cap zs base P bv n acts w Q HQ v1 v2 v3 Bs _ hR hv1 hv2 hv3 hN
 refine AllReady.cons rfl (fun K hK=>?_) ?_
 ·simp only[ay,Tryz.f63]
  go_wp2_with (go_at_call 35;refine (aY D ao len cap zs base P bv n acts w W _ hR (by decide) (by decide)).mono ?_;rintro e w' ⟨v4,rfl,hv4,hr,hk⟩)
  refine wpAny_take (i:=16) (v:=.int .i64 (IntKind.i64.wrap (95+(v4:Int)))) rfl (by kernel_rfl) (by kernel_rfl) (by kernel_rfl) (fun _ _ _ h=>HQ.2 _ _ _ _ _ h) (Or.inl ⟨by rfl,fun w=>by simp only[ay,Tryz.f63];go_simp⟩) ?_
  exact Ib D ao len cap zs base P bv n acts w Q HQ v1 v2 v3 v4 Bs w' hr hv1 hv2 hv3 hv4 (hN.bG hk)
 refine AllReady.cons rfl (fun K hK=>?_) ?_
 ·simp only[ay,Tryz.f63]
  go_simp
  refine hK _ _ ?_
  exact Hy D ao len cap zs base P bv n acts w Q HQ v1 v2 v3 Bs _ _ (hR.alloc _) hv1 hv2 hv3 (hN.alloc _) (bf.make hR)
 exact AllReady.nil
theorem vV(D:Nat)(ao:Option Addr)(len cap:Nat)(zs:Nat->Int)(base P bv n:Nat)(acts:Int)(w:World)(Q:Exit->Act->World->Prop)(HQ:dB D ao len cap zs base P bv n acts w Q)(v1 v2:Nat)(Bs:Nat)(Bo:Nat)(W:World)(hR:bM D ao len cap zs base P bv n acts w W)(hv1:(v1:Int)<4)(hv2:(v2:Int)<2)(hN:bC D W Bs)(hO:bf D w W Bo) :
 wpAny Tryz.prog .any ay Q 9 #[true,true,true,true,true,true,true,true,true,true,true,false,false,false,true,false,false,true,false,false,false,true,false] ⟨((.pointer (some ⟨P,0,none⟩)) :: (.pointer (some ⟨D,0,none⟩)) :: (undef) :: (undef) :: (.pointer (some ⟨w.heap.size,0,none⟩)) :: (.pointer (some ⟨Bo,0,none⟩)) :: (.pointer (some ⟨P,0,none⟩)) :: (.pointer (some ⟨P,0,none⟩)) :: (.pointer (some ⟨P,1,none⟩)) :: (.int .i64 (n:Int)) :: (.int .i64 (IntKind.i64.wrap ((n:Int)+1))) :: (.pointer (some ⟨D,0,none⟩)) :: (.int .i64 (v1:Int)) :: (.pointer (some ⟨D,0,none⟩)) :: (.int .i64 (v2:Int)) :: (.slice (some ⟨Bs,0,none⟩) 9 9) :: (.pointer (some ⟨D,0,none⟩)) :: (undef) :: (undef) :: (undef) :: (.pointer (some ⟨D,0,none⟩)) :: (undef) :: (undef) :: (.pointer (some ⟨D,0,none⟩)) :: (undef) :: (undef) :: (undef) :: (undef) :: (undef) :: (undef) :: (undef) :: (undef) :: (undef) :: (undef) :: (undef) :: (undef) :: []).toArray,[]⟩ W:=by
 have hcell:=hR.cell
 have hlt:=hR.eG.lt
 refine wpAny_ready (rs:=[11]) (by kernel_rfl) (by simp) ?_
 refine AllReady.cons rfl (fun K hK=>?_) ?_
 ·simp only[ay,Tryz.f63]
  go_wp2_with (go_at_call 35;refine (aY D ao len cap zs base P bv n acts w W _ hR (by decide) (by decide)).mono ?_;rintro e w' ⟨v3,rfl,hv3,hr,hk⟩)
  have ja:v3<9:=by omega
  refine wpAny_take (i:=12) (v:=.pointer (some ⟨Bs,v3,none⟩)) rfl (by kernel_rfl) (by kernel_rfl) (by kernel_rfl) (fun _ _ _ h=>HQ.2 _ _ _ _ _ h) (Or.inl ⟨by rfl,fun w=>by simp only[ay,Tryz.f63];go_simp⟩) ?_
  exact vW D ao len cap zs base P bv n acts w Q HQ v1 v2 v3 Bs Bo w' hr hv1 hv2 hv3 (hN.bG hk) (hO.bG hk)
 exact AllReady.nil
theorem Ri(D:Nat)(ao:Option Addr)(len cap:Nat)(zs:Nat->Int)(base P bv n:Nat)(acts:Int)(w:World)(Q:Exit->Act->World->Prop)(HQ:dB D ao len cap zs base P bv n acts w Q)(v1 v2 v3 v4:Nat)(W:World)(hR:bM D ao len cap zs base P bv n acts w W)(hv1:(v1:Int)<4)(hv2:(v2:Int)<2)(hv3:(v3:Int)<9)(hv4:(v4:Int)<10) :
 wpAny Tryz.prog .any ay Q 10 #[true,true,true,false,false,true,true,true,true,false,true,true,false,false,true,true,true,true,false,false,false,false,false] ⟨((.pointer (some ⟨P,0,none⟩)) :: (.pointer (some ⟨D,0,none⟩)) :: (undef) :: (undef) :: (.pointer (some ⟨w.heap.size,0,none⟩)) :: (undef) :: (.pointer (some ⟨P,0,none⟩)) :: (.pointer (some ⟨P,0,none⟩)) :: (.pointer (some ⟨P,1,none⟩)) :: (undef) :: (undef) :: (.pointer (some ⟨D,0,none⟩)) :: (.int .i64 (v1:Int)) :: (.pointer (some ⟨D,0,none⟩)) :: (.int .i64 (v2:Int)) :: (undef) :: (.pointer (some ⟨D,0,none⟩)) :: (.int .i64 (v3:Int)) :: (undef) :: (undef) :: (.pointer (some ⟨D,0,none⟩)) :: (.int .i64 (v4:Int)) :: (.int .i64 (IntKind.i64.wrap (95+(v4:Int)))) :: (.pointer (some ⟨D,0,none⟩)) :: (undef) :: (undef) :: (undef) :: (undef) :: (undef) :: (undef) :: (undef) :: (undef) :: (undef) :: (undef) :: (undef) :: (undef) :: []).toArray,[]⟩ W:=by
 have hcell:=hR.cell
 have hlt:=hR.eG.lt
 refine wpAny_ready (rs:=[3,9,18,21]) (by kernel_rfl) (by simp) ?_
 refine AllReady.cons rfl (fun K hK=>?_) ?_
 ·simp only[ay,Tryz.f63]
  go_simp
  refine hK _ _ ?_
  refine wpAny_take (i:=4) (v:=.int .i64 (IntKind.i64.wrap ((n:Int)+1))) rfl (by kernel_rfl) (by kernel_rfl) (by kernel_rfl) (fun _ _ _ h=>HQ.2 _ _ _ _ _ h) (Or.inl ⟨by rfl,fun w=>by simp only[ay,Tryz.f63];go_simp⟩) ?_
  exact Ic D ao len cap zs base P bv n acts w Q HQ v1 v2 v3 v4 _ hR hv1 hv2 hv3 hv4
 refine AllReady.cons rfl (fun K hK=>?_) ?_
 ·simp only[ay,Tryz.f63]
  go_simp
  refine hK _ _ ?_
  have ja:v3<9:=by omega
  refine wpAny_take (i:=12) (v:=.pointer (some ⟨W.heap.size,v3,none⟩)) rfl (by kernel_rfl) (by kernel_rfl) (by kernel_rfl) (fun _ _ _ h=>HQ.2 _ _ _ _ _ h) (Or.inl ⟨by rfl,fun w=>by simp only[ay,Tryz.f63];go_simp⟩) ?_
  exact Ia D ao len cap zs base P bv n acts w Q HQ v1 v2 v3 v4 _ _ (hR.alloc _) hv1 hv2 hv3 hv4 (bC.new hR)
 refine AllReady.cons rfl (fun K hK=>?_) ?_
 ·simp only[ay,Tryz.f63]
  go_wp2_with (go_at_call 35;refine (aY D ao len cap zs base P bv n acts w W _ hR (by decide) (by decide)).mono ?_;rintro e w' ⟨v5,rfl,hv5,hr,hk⟩)
  refine wpAny_take (i:=19) (v:=.int .i64 (IntKind.i64.wrap (1+(v5:Int)))) rfl (by kernel_rfl) (by kernel_rfl) (by kernel_rfl) (fun _ _ _ h=>HQ.2 _ _ _ _ _ h) (Or.inl ⟨by rfl,fun w=>by simp only[ay,Tryz.f63];go_simp⟩) ?_
  exact Rj D ao len cap zs base P bv n acts w Q HQ v1 v2 v3 v4 v5 w' hr hv1 hv2 hv3 hv4 hv5
 refine AllReady.cons rfl (fun K hK=>?_) ?_
 ·simp only[ay,Tryz.f63]
  go_simp
  refine hK _ _ ?_
  exact H8 D ao len cap zs base P bv n acts w Q HQ v1 v2 v3 v4 _ _ (hR.alloc _) hv1 hv2 hv3 hv4 (bf.make hR)
 exact AllReady.nil
theorem Hz(D:Nat)(ao:Option Addr)(len cap:Nat)(zs:Nat->Int)(base P bv n:Nat)(acts:Int)(w:World)(Q:Exit->Act->World->Prop)(HQ:dB D ao len cap zs base P bv n acts w Q)(v1 v2 v3:Nat)(W:World)(hR:bM D ao len cap zs base P bv n acts w W)(hv1:(v1:Int)<4)(hv2:(v2:Int)<2)(hv3:(v3:Int)<9) :
 wpAny Tryz.prog .any ay Q 10 #[true,true,true,true,true,true,true,true,true,false,true,true,false,false,true,false,false,true,false,false,false,false,false] ⟨((.pointer (some ⟨P,0,none⟩)) :: (.pointer (some ⟨D,0,none⟩)) :: (undef) :: (undef) :: (.pointer (some ⟨w.heap.size,0,none⟩)) :: (undef) :: (.pointer (some ⟨P,0,none⟩)) :: (.pointer (some ⟨P,0,none⟩)) :: (.pointer (some ⟨P,1,none⟩)) :: (.int .i64 (n:Int)) :: (.int .i64 (IntKind.i64.wrap ((n:Int)+1))) :: (.pointer (some ⟨D,0,none⟩)) :: (.int .i64 (v1:Int)) :: (.pointer (some ⟨D,0,none⟩)) :: (.int .i64 (v2:Int)) :: (undef) :: (.pointer (some ⟨D,0,none⟩)) :: (.int .i64 (v3:Int)) :: (undef) :: (undef) :: (.pointer (some ⟨D,0,none⟩)) :: (undef) :: (undef) :: (.pointer (some ⟨D,0,none⟩)) :: (undef) :: (undef) :: (undef) :: (undef) :: (undef) :: (undef) :: (undef) :: (undef) :: (undef) :: (undef) :: (undef) :: (undef) :: []).toArray,[]⟩ W:=by
 have hcell:=hR.cell
 have hlt:=hR.eG.lt
 refine wpAny_ready (rs:=[9,15,21]) (by kernel_rfl) (by simp) ?_
 refine AllReady.cons rfl (fun K hK=>?_) ?_
 ·simp only[ay,Tryz.f63]
  go_simp
  refine hK _ _ ?_
  have ja:v3<9:=by omega
  refine wpAny_take (i:=12) (v:=.pointer (some ⟨W.heap.size,v3,none⟩)) rfl (by kernel_rfl) (by kernel_rfl) (by kernel_rfl) (fun _ _ _ h=>HQ.2 _ _ _ _ _ h) (Or.inl ⟨by rfl,fun w=>by simp only[ay,Tryz.f63];go_simp⟩) ?_
  exact AV D ao len cap zs base P bv n acts w Q HQ v1 v2 v3 _ _ (hR.alloc _) hv1 hv2 hv3 (bC.new hR)
 refine AllReady.cons rfl (fun K hK=>?_) ?_
 ·simp only[ay,Tryz.f63]
  go_wp2_with (go_at_call 35;refine (aY D ao len cap zs base P bv n acts w W _ hR (by decide) (by decide)).mono ?_;rintro e w' ⟨v4,rfl,hv4,hr,hk⟩)
  refine wpAny_take (i:=16) (v:=.int .i64 (IntKind.i64.wrap (95+(v4:Int)))) rfl (by kernel_rfl) (by kernel_rfl) (by kernel_rfl) (fun _ _ _ h=>HQ.2 _ _ _ _ _ h) (Or.inl ⟨by rfl,fun w=>by simp only[ay,Tryz.f63];go_simp⟩) ?_
  exact Ic D ao len cap zs base P bv n acts w Q HQ v1 v2 v3 v4 w' hr hv1 hv2 hv3 hv4
 refine AllReady.cons rfl (fun K hK=>?_) ?_
 ·simp only[ay,Tryz.f63]
  go_simp
  refine hK _ _ ?_
  exact AQ D ao len cap zs base P bv n acts w Q HQ v1 v2 v3 _ _ (hR.alloc _) hv1 hv2 hv3 (bf.make hR)
 exact AllReady.nil
theorem Hw(D:Nat)(ao:Option Addr)(len cap:Nat)(zs:Nat->Int)(base P bv n:Nat)(acts:Int)(w:World)(Q:Exit->Act->World->Prop)(HQ:dB D ao len cap zs base P bv n acts w Q)(v1 v2 v3:Nat)(Bs:Nat)(W:World)(hR:bM D ao len cap zs base P bv n acts w W)(hv1:(v1:Int)<4)(hv2:(v2:Int)<2)(hv3:(v3:Int)<9)(hN:bC D W Bs) :
 wpAny Tryz.prog .any ay Q 10 #[true,true,true,false,false,true,true,true,true,true,true,true,true,false,true,false,false,true,false,false,false,false,false] ⟨((.pointer (some ⟨P,0,none⟩)) :: (.pointer (some ⟨D,0,none⟩)) :: (undef) :: (undef) :: (.pointer (some ⟨w.heap.size,0,none⟩)) :: (undef) :: (.pointer (some ⟨P,0,none⟩)) :: (.pointer (some ⟨P,0,none⟩)) :: (.pointer (some ⟨P,1,none⟩)) :: (undef) :: (undef) :: (.pointer (some ⟨D,0,none⟩)) :: (.int .i64 (v1:Int)) :: (.pointer (some ⟨D,0,none⟩)) :: (.int .i64 (v2:Int)) :: (.slice (some ⟨Bs,0,none⟩) 9 9) :: (.pointer (some ⟨D,0,none⟩)) :: (.int .i64 (v3:Int)) :: (.pointer (some ⟨Bs,v3,none⟩)) :: (undef) :: (.pointer (some ⟨D,0,none⟩)) :: (undef) :: (undef) :: (.pointer (some ⟨D,0,none⟩)) :: (undef) :: (undef) :: (undef) :: (undef) :: (undef) :: (undef) :: (undef) :: (undef) :: (undef) :: (undef) :: (undef) :: (undef) :: []).toArray,[]⟩ W:=by
 have hcell:=hR.cell
 have hlt:=hR.eG.lt
 have hcv:=hN.cells v3 (by omega)
 have hNl:=hN.lt
 have ja:v3<9:=by omega
 refine wpAny_ready (rs:=[3,13,15,21]) (by kernel_rfl) (by simp) ?_
 refine AllReady.cons rfl (fun K hK=>?_) ?_
 ·simp only[ay,Tryz.f63]
  go_simp
  refine hK _ _ ?_
  refine wpAny_take (i:=4) (v:=.int .i64 (IntKind.i64.wrap ((n:Int)+1))) rfl (by kernel_rfl) (by kernel_rfl) (by kernel_rfl) (fun _ _ _ h=>HQ.2 _ _ _ _ _ h) (Or.inl ⟨by rfl,fun w=>by simp only[ay,Tryz.f63];go_simp⟩) ?_
  exact AV D ao len cap zs base P bv n acts w Q HQ v1 v2 v3 Bs _ hR hv1 hv2 hv3 hN
 refine AllReady.cons rfl (fun K hK=>?_) ?_
 ·simp only[ay,Tryz.f63]
  go_simp
  refine hK _ _ ?_
  exact Rh D ao len cap zs base P bv n acts w Q HQ v1 v2 v3 Bs _ hR hv1 hv2 hv3 hN
 refine AllReady.cons rfl (fun K hK=>?_) ?_
 ·simp only[ay,Tryz.f63]
  go_wp2_with (go_at_call 35;refine (aY D ao len cap zs base P bv n acts w W _ hR (by decide) (by decide)).mono ?_;rintro e w' ⟨v4,rfl,hv4,hr,hk⟩)
  refine wpAny_take (i:=16) (v:=.int .i64 (IntKind.i64.wrap (95+(v4:Int)))) rfl (by kernel_rfl) (by kernel_rfl) (by kernel_rfl) (fun _ _ _ h=>HQ.2 _ _ _ _ _ h) (Or.inl ⟨by rfl,fun w=>by simp only[ay,Tryz.f63];go_simp⟩) ?_
  exact Ia D ao len cap zs base P bv n acts w Q HQ v1 v2 v3 v4 Bs w' hr hv1 hv2 hv3 hv4 (hN.bG hk)
 refine AllReady.cons rfl (fun K hK=>?_) ?_
 ·simp only[ay,Tryz.f63]
  go_simp
  refine hK _ _ ?_
  exact AP D ao len cap zs base P bv n acts w Q HQ v1 v2 v3 Bs _ _ (hR.alloc _) hv1 hv2 hv3 (hN.alloc _) (bf.make hR)
 exact AllReady.nil
theorem AO(D:Nat)(ao:Option Addr)(len cap:Nat)(zs:Nat->Int)(base P bv n:Nat)(acts:Int)(w:World)(Q:Exit->Act->World->Prop)(HQ:dB D ao len cap zs base P bv n acts w Q)(v1 v2:Nat)(Bs:Nat)(W:World)(hR:bM D ao len cap zs base P bv n acts w W)(hv1:(v1:Int)<4)(hv2:(v2:Int)<2)(hN:bC D W Bs) :
 wpAny Tryz.prog .any ay Q 10 #[true,true,true,true,true,true,true,true,true,true,true,false,false,false,true,false,false,true,false,false,false,false,false] ⟨((.pointer (some ⟨P,0,none⟩)) :: (.pointer (some ⟨D,0,none⟩)) :: (undef) :: (undef) :: (.pointer (some ⟨w.heap.size,0,none⟩)) :: (undef) :: (.pointer (some ⟨P,0,none⟩)) :: (.pointer (some ⟨P,0,none⟩)) :: (.pointer (some ⟨P,1,none⟩)) :: (.int .i64 (n:Int)) :: (.int .i64 (IntKind.i64.wrap ((n:Int)+1))) :: (.pointer (some ⟨D,0,none⟩)) :: (.int .i64 (v1:Int)) :: (.pointer (some ⟨D,0,none⟩)) :: (.int .i64 (v2:Int)) :: (.slice (some ⟨Bs,0,none⟩) 9 9) :: (.pointer (some ⟨D,0,none⟩)) :: (undef) :: (undef) :: (undef) :: (.pointer (some ⟨D,0,none⟩)) :: (undef) :: (undef) :: (.pointer (some ⟨D,0,none⟩)) :: (undef) :: (undef) :: (undef) :: (undef) :: (undef) :: (undef) :: (undef) :: (undef) :: (undef) :: (undef) :: (undef) :: (undef) :: []).toArray,[]⟩ W:=by
 have hcell:=hR.cell
 have hlt:=hR.eG.lt
 refine wpAny_ready (rs:=[11,21]) (by kernel_rfl) (by simp) ?_
 refine AllReady.cons rfl (fun K hK=>?_) ?_
 ·simp only[ay,Tryz.f63]
  go_wp2_with (go_at_call 35;refine (aY D ao len cap zs base P bv n acts w W _ hR (by decide) (by decide)).mono ?_;rintro e w' ⟨v3,rfl,hv3,hr,hk⟩)
  have ja:v3<9:=by omega
  refine wpAny_take (i:=12) (v:=.pointer (some ⟨Bs,v3,none⟩)) rfl (by kernel_rfl) (by kernel_rfl) (by kernel_rfl) (fun _ _ _ h=>HQ.2 _ _ _ _ _ h) (Or.inl ⟨by rfl,fun w=>by simp only[ay,Tryz.f63];go_simp⟩) ?_
  exact AV D ao len cap zs base P bv n acts w Q HQ v1 v2 v3 Bs w' hr hv1 hv2 hv3 (hN.bG hk)
 refine AllReady.cons rfl (fun K hK=>?_) ?_
 ·simp only[ay,Tryz.f63]
  go_simp
  refine hK _ _ ?_
  exact vV D ao len cap zs base P bv n acts w Q HQ v1 v2 Bs _ _ (hR.alloc _) hv1 hv2 (hN.alloc _) (bf.make hR)
 exact AllReady.nil
theorem AL(D:Nat)(ao:Option Addr)(len cap:Nat)(zs:Nat->Int)(base P bv n:Nat)(acts:Int)(w:World)(Q:Exit->Act->World->Prop)(HQ:dB D ao len cap zs base P bv n acts w Q)(v1 v2:Nat)(Bo:Nat)(W:World)(hR:bM D ao len cap zs base P bv n acts w W)(hv1:(v1:Int)<4)(hv2:(v2:Int)<2)(hO:bf D w W Bo) :
 wpAny Tryz.prog .any ay Q 10 #[true,true,true,true,true,true,true,true,true,false,true,false,false,false,true,false,false,true,false,false,false,true,false] ⟨((.pointer (some ⟨P,0,none⟩)) :: (.pointer (some ⟨D,0,none⟩)) :: (undef) :: (undef) :: (.pointer (some ⟨w.heap.size,0,none⟩)) :: (.pointer (some ⟨Bo,0,none⟩)) :: (.pointer (some ⟨P,0,none⟩)) :: (.pointer (some ⟨P,0,none⟩)) :: (.pointer (some ⟨P,1,none⟩)) :: (.int .i64 (n:Int)) :: (.int .i64 (IntKind.i64.wrap ((n:Int)+1))) :: (.pointer (some ⟨D,0,none⟩)) :: (.int .i64 (v1:Int)) :: (.pointer (some ⟨D,0,none⟩)) :: (.int .i64 (v2:Int)) :: (undef) :: (.pointer (some ⟨D,0,none⟩)) :: (undef) :: (undef) :: (undef) :: (.pointer (some ⟨D,0,none⟩)) :: (undef) :: (undef) :: (.pointer (some ⟨D,0,none⟩)) :: (undef) :: (undef) :: (undef) :: (undef) :: (undef) :: (undef) :: (undef) :: (undef) :: (undef) :: (undef) :: (undef) :: (undef) :: []).toArray,[]⟩ W:=by
 have hcell:=hR.cell
 have hlt:=hR.eG.lt
 refine wpAny_ready (rs:=[9,11]) (by kernel_rfl) (by simp) ?_
 refine AllReady.cons rfl (fun K hK=>?_) ?_
 ·simp only[ay,Tryz.f63]
  go_simp
  refine hK _ _ ?_
  exact vV D ao len cap zs base P bv n acts w Q HQ v1 v2 _ Bo _ (hR.alloc _) hv1 hv2 (bC.new hR) (hO.alloc _)
 refine AllReady.cons rfl (fun K hK=>?_) ?_
 ·simp only[ay,Tryz.f63]
  go_wp2_with (go_at_call 35;refine (aY D ao len cap zs base P bv n acts w W _ hR (by decide) (by decide)).mono ?_;rintro e w' ⟨v3,rfl,hv3,hr,hk⟩)
  exact AQ D ao len cap zs base P bv n acts w Q HQ v1 v2 v3 Bo w' hr hv1 hv2 hv3 (hO.bG hk)
 exact AllReady.nil
theorem vU(D:Nat)(ao:Option Addr)(len cap:Nat)(zs:Nat->Int)(base P bv n:Nat)(acts:Int)(w:World)(Q:Exit->Act->World->Prop)(HQ:dB D ao len cap zs base P bv n acts w Q)(v1:Nat)(Bs:Nat)(Bo:Nat)(W:World)(hR:bM D ao len cap zs base P bv n acts w W)(hv1:(v1:Int)<4)(hN:bC D W Bs)(hO:bf D w W Bo) :
 wpAny Tryz.prog .any ay Q 10 #[true,true,true,true,true,true,true,true,false,true,true,false,false,false,true,false,false,true,false,false,false,true,false] ⟨((.pointer (some ⟨P,0,none⟩)) :: (.pointer (some ⟨D,0,none⟩)) :: (undef) :: (undef) :: (.pointer (some ⟨w.heap.size,0,none⟩)) :: (.pointer (some ⟨Bo,0,none⟩)) :: (.pointer (some ⟨P,0,none⟩)) :: (.pointer (some ⟨P,0,none⟩)) :: (.pointer (some ⟨P,1,none⟩)) :: (.int .i64 (n:Int)) :: (.int .i64 (IntKind.i64.wrap ((n:Int)+1))) :: (.pointer (some ⟨D,0,none⟩)) :: (.int .i64 (v1:Int)) :: (.pointer (some ⟨D,0,none⟩)) :: (undef) :: (.slice (some ⟨Bs,0,none⟩) 9 9) :: (.pointer (some ⟨D,0,none⟩)) :: (undef) :: (undef) :: (undef) :: (.pointer (some ⟨D,0,none⟩)) :: (undef) :: (undef) :: (.pointer (some ⟨D,0,none⟩)) :: (undef) :: (undef) :: (undef) :: (undef) :: (undef) :: (undef) :: (undef) :: (undef) :: (undef) :: (undef) :: (undef) :: (undef) :: []).toArray,[]⟩ W:=by
 have hcell:=hR.cell
 have hlt:=hR.eG.lt
 refine wpAny_ready (rs:=[8]) (by kernel_rfl) (by simp) ?_
 refine AllReady.cons rfl (fun K hK=>?_) ?_
 ·simp only[ay,Tryz.f63]
  go_wp2_with (go_at_call 35;refine (aY D ao len cap zs base P bv n acts w W _ hR (by decide) (by decide)).mono ?_;rintro e w' ⟨v2,rfl,hv2,hr,hk⟩)
  exact vV D ao len cap zs base P bv n acts w Q HQ v1 v2 Bs Bo w' hr hv1 hv2 (hN.bG hk) (hO.bG hk)
 exact AllReady.nil
theorem Hu(D:Nat)(ao:Option Addr)(len cap:Nat)(zs:Nat->Int)(base P bv n:Nat)(acts:Int)(w:World)(Q:Exit->Act->World->Prop)(HQ:dB D ao len cap zs base P bv n acts w Q)(v1 v2 v3:Nat)(Bo:Nat)(W:World)(hR:bM D ao len cap zs base P bv n acts w W)(hv1:(v1:Int)<4)(hv2:(v2:Int)<2)(hv3:(v3:Int)<9)(hO:bf D w W Bo) :
 wpAny Tryz.prog .any ay Q 11 #[true,true,true,false,false,true,true,true,true,false,true,true,false,false,true,false,false,true,false,false,false,true,false] ⟨((.pointer (some ⟨P,0,none⟩)) :: (.pointer (some ⟨D,0,none⟩)) :: (undef) :: (undef) :: (.pointer (some ⟨w.heap.size,0,none⟩)) :: (.pointer (some ⟨Bo,0,none⟩)) :: (.pointer (some ⟨P,0,none⟩)) :: (.pointer (some ⟨P,0,none⟩)) :: (.pointer (some ⟨P,1,none⟩)) :: (undef) :: (undef) :: (.pointer (some ⟨D,0,none⟩)) :: (.int .i64 (v1:Int)) :: (.pointer (some ⟨D,0,none⟩)) :: (.int .i64 (v2:Int)) :: (undef) :: (.pointer (some ⟨D,0,none⟩)) :: (.int .i64 (v3:Int)) :: (undef) :: (undef) :: (.pointer (some ⟨D,0,none⟩)) :: (undef) :: (undef) :: (.pointer (some ⟨D,0,none⟩)) :: (undef) :: (undef) :: (undef) :: (undef) :: (undef) :: (undef) :: (undef) :: (undef) :: (undef) :: (undef) :: (undef) :: (undef) :: []).toArray,[]⟩ W:=by
 have hcell:=hR.cell
 have hlt:=hR.eG.lt
 refine wpAny_ready (rs:=[3,9,15]) (by kernel_rfl) (by simp) ?_
 refine AllReady.cons rfl (fun K hK=>?_) ?_
 ·simp only[ay,Tryz.f63]
  go_simp
  refine hK _ _ ?_
  refine wpAny_take (i:=4) (v:=.int .i64 (IntKind.i64.wrap ((n:Int)+1))) rfl (by kernel_rfl) (by kernel_rfl) (by kernel_rfl) (fun _ _ _ h=>HQ.2 _ _ _ _ _ h) (Or.inl ⟨by rfl,fun w=>by simp only[ay,Tryz.f63];go_simp⟩) ?_
  exact AQ D ao len cap zs base P bv n acts w Q HQ v1 v2 v3 Bo _ hR hv1 hv2 hv3 hO
 refine AllReady.cons rfl (fun K hK=>?_) ?_
 ·simp only[ay,Tryz.f63]
  go_simp
  refine hK _ _ ?_
  have ja:v3<9:=by omega
  refine wpAny_take (i:=12) (v:=.pointer (some ⟨W.heap.size,v3,none⟩)) rfl (by kernel_rfl) (by kernel_rfl) (by kernel_rfl) (fun _ _ _ h=>HQ.2 _ _ _ _ _ h) (Or.inl ⟨by rfl,fun w=>by simp only[ay,Tryz.f63];go_simp⟩) ?_
  exact AP D ao len cap zs base P bv n acts w Q HQ v1 v2 v3 _ Bo _ (hR.alloc _) hv1 hv2 hv3 (bC.new hR) (hO.alloc _)
 refine AllReady.cons rfl (fun K hK=>?_) ?_
 ·simp only[ay,Tryz.f63]
  go_wp2_with (go_at_call 35;refine (aY D ao len cap zs base P bv n acts w W _ hR (by decide) (by decide)).mono ?_;rintro e w' ⟨v4,rfl,hv4,hr,hk⟩)
  refine wpAny_take (i:=16) (v:=.int .i64 (IntKind.i64.wrap (95+(v4:Int)))) rfl (by kernel_rfl) (by kernel_rfl) (by kernel_rfl) (fun _ _ _ h=>HQ.2 _ _ _ _ _ h) (Or.inl ⟨by rfl,fun w=>by simp only[ay,Tryz.f63];go_simp⟩) ?_
  exact H8 D ao len cap zs base P bv n acts w Q HQ v1 v2 v3 v4 Bo w' hr hv1 hv2 hv3 hv4 (hO.bG hk)
 exact AllReady.nil
theorem Ht(D:Nat)(ao:Option Addr)(len cap:Nat)(zs:Nat->Int)(base P bv n:Nat)(acts:Int)(w:World)(Q:Exit->Act->World->Prop)(HQ:dB D ao len cap zs base P bv n acts w Q)(v1 v2:Nat)(W:World)(hR:bM D ao len cap zs base P bv n acts w W)(hv1:(v1:Int)<4)(hv2:(v2:Int)<2) :
 wpAny Tryz.prog .any ay Q 11 #[true,true,true,true,true,true,true,true,true,false,true,false,false,false,true,false,false,true,false,false,false,false,false] ⟨((.pointer (some ⟨P,0,none⟩)) :: (.pointer (some ⟨D,0,none⟩)) :: (undef) :: (undef) :: (.pointer (some ⟨w.heap.size,0,none⟩)) :: (undef) :: (.pointer (some ⟨P,0,none⟩)) :: (.pointer (some ⟨P,0,none⟩)) :: (.pointer (some ⟨P,1,none⟩)) :: (.int .i64 (n:Int)) :: (.int .i64 (IntKind.i64.wrap ((n:Int)+1))) :: (.pointer (some ⟨D,0,none⟩)) :: (.int .i64 (v1:Int)) :: (.pointer (some ⟨D,0,none⟩)) :: (.int .i64 (v2:Int)) :: (undef) :: (.pointer (some ⟨D,0,none⟩)) :: (undef) :: (undef) :: (undef) :: (.pointer (some ⟨D,0,none⟩)) :: (undef) :: (undef) :: (.pointer (some ⟨D,0,none⟩)) :: (undef) :: (undef) :: (undef) :: (undef) :: (undef) :: (undef) :: (undef) :: (undef) :: (undef) :: (undef) :: (undef) :: (undef) :: []).toArray,[]⟩ W:=by
 have hcell:=hR.cell
 have hlt:=hR.eG.lt
 refine wpAny_ready (rs:=[9,11,21]) (by kernel_rfl) (by simp) ?_
 refine AllReady.cons rfl (fun K hK=>?_) ?_
 ·simp only[ay,Tryz.f63]
  go_simp
  refine hK _ _ ?_
  exact AO D ao len cap zs base P bv n acts w Q HQ v1 v2 _ _ (hR.alloc _) hv1 hv2 (bC.new hR)
 refine AllReady.cons rfl (fun K hK=>?_) ?_
 ·simp only[ay,Tryz.f63]
  go_wp2_with (go_at_call 35;refine (aY D ao len cap zs base P bv n acts w W _ hR (by decide) (by decide)).mono ?_;rintro e w' ⟨v3,rfl,hv3,hr,hk⟩)
  exact Hz D ao len cap zs base P bv n acts w Q HQ v1 v2 v3 w' hr hv1 hv2 hv3
 refine AllReady.cons rfl (fun K hK=>?_) ?_
 ·simp only[ay,Tryz.f63]
  go_simp
  refine hK _ _ ?_
  exact AL D ao len cap zs base P bv n acts w Q HQ v1 v2 _ _ (hR.alloc _) hv1 hv2 (bf.make hR)
 exact AllReady.nil
theorem AB(D:Nat)(ao:Option Addr)(len cap:Nat)(zs:Nat->Int)(base P bv n:Nat)(acts:Int)(w:World)(Q:Exit->Act->World->Prop)(HQ:dB D ao len cap zs base P bv n acts w Q)(v1 v2:Nat)(Bs:Nat)(Bo:Nat)(W:World)(hR:bM D ao len cap zs base P bv n acts w W)(hv1:(v1:Int)<4)(hv2:(v2:Int)<2)(hN:bC D W Bs)(hO:bf D w W Bo) :
 wpAny Tryz.prog .any ay Q 11 #[true,true,true,false,false,true,true,true,true,true,true,false,false,false,true,false,false,true,false,false,false,true,false] ⟨((.pointer (some ⟨P,0,none⟩)) :: (.pointer (some ⟨D,0,none⟩)) :: (undef) :: (undef) :: (.pointer (some ⟨w.heap.size,0,none⟩)) :: (.pointer (some ⟨Bo,0,none⟩)) :: (.pointer (some ⟨P,0,none⟩)) :: (.pointer (some ⟨P,0,none⟩)) :: (.pointer (some ⟨P,1,none⟩)) :: (undef) :: (undef) :: (.pointer (some ⟨D,0,none⟩)) :: (.int .i64 (v1:Int)) :: (.pointer (some ⟨D,0,none⟩)) :: (.int .i64 (v2:Int)) :: (.slice (some ⟨Bs,0,none⟩) 9 9) :: (.pointer (some ⟨D,0,none⟩)) :: (undef) :: (undef) :: (undef) :: (.pointer (some ⟨D,0,none⟩)) :: (undef) :: (undef) :: (.pointer (some ⟨D,0,none⟩)) :: (undef) :: (undef) :: (undef) :: (undef) :: (undef) :: (undef) :: (undef) :: (undef) :: (undef) :: (undef) :: (undef) :: (undef) :: []).toArray,[]⟩ W:=by
 have hcell:=hR.cell
 have hlt:=hR.eG.lt
 refine wpAny_ready (rs:=[3,11]) (by kernel_rfl) (by simp) ?_
 refine AllReady.cons rfl (fun K hK=>?_) ?_
 ·simp only[ay,Tryz.f63]
  go_simp
  refine hK _ _ ?_
  refine wpAny_take (i:=4) (v:=.int .i64 (IntKind.i64.wrap ((n:Int)+1))) rfl (by kernel_rfl) (by kernel_rfl) (by kernel_rfl) (fun _ _ _ h=>HQ.2 _ _ _ _ _ h) (Or.inl ⟨by rfl,fun w=>by simp only[ay,Tryz.f63];go_simp⟩) ?_
  exact vV D ao len cap zs base P bv n acts w Q HQ v1 v2 Bs Bo _ hR hv1 hv2 hN hO
 refine AllReady.cons rfl (fun K hK=>?_) ?_
 ·simp only[ay,Tryz.f63]
  go_wp2_with (go_at_call 35;refine (aY D ao len cap zs base P bv n acts w W _ hR (by decide) (by decide)).mono ?_;rintro e w' ⟨v3,rfl,hv3,hr,hk⟩)
  have ja:v3<9:=by omega
  refine wpAny_take (i:=12) (v:=.pointer (some ⟨Bs,v3,none⟩)) rfl (by kernel_rfl) (by kernel_rfl) (by kernel_rfl) (fun _ _ _ h=>HQ.2 _ _ _ _ _ h) (Or.inl ⟨by rfl,fun w=>by simp only[ay,Tryz.f63];go_simp⟩) ?_
  exact AP D ao len cap zs base P bv n acts w Q HQ v1 v2 v3 Bs Bo w' hr hv1 hv2 hv3 (hN.bG hk) (hO.bG hk)
 exact AllReady.nil
theorem AA(D:Nat)(ao:Option Addr)(len cap:Nat)(zs:Nat->Int)(base P bv n:Nat)(acts:Int)(w:World)(Q:Exit->Act->World->Prop)(HQ:dB D ao len cap zs base P bv n acts w Q)(v1:Nat)(Bs:Nat)(W:World)(hR:bM D ao len cap zs base P bv n acts w W)(hv1:(v1:Int)<4)(hN:bC D W Bs) :
 wpAny Tryz.prog .any ay Q 11 #[true,true,true,true,true,true,true,true,false,true,true,false,false,false,true,false,false,true,false,false,false,false,false] ⟨((.pointer (some ⟨P,0,none⟩)) :: (.pointer (some ⟨D,0,none⟩)) :: (undef) :: (undef) :: (.pointer (some ⟨w.heap.size,0,none⟩)) :: (undef) :: (.pointer (some ⟨P,0,none⟩)) :: (.pointer (some ⟨P,0,none⟩)) :: (.pointer (some ⟨P,1,none⟩)) :: (.int .i64 (n:Int)) :: (.int .i64 (IntKind.i64.wrap ((n:Int)+1))) :: (.pointer (some ⟨D,0,none⟩)) :: (.int .i64 (v1:Int)) :: (.pointer (some ⟨D,0,none⟩)) :: (undef) :: (.slice (some ⟨Bs,0,none⟩) 9 9) :: (.pointer (some ⟨D,0,none⟩)) :: (undef) :: (undef) :: (undef) :: (.pointer (some ⟨D,0,none⟩)) :: (undef) :: (undef) :: (.pointer (some ⟨D,0,none⟩)) :: (undef) :: (undef) :: (undef) :: (undef) :: (undef) :: (undef) :: (undef) :: (undef) :: (undef) :: (undef) :: (undef) :: (undef) :: []).toArray,[]⟩ W:=by
 have hcell:=hR.cell
 have hlt:=hR.eG.lt
 refine wpAny_ready (rs:=[8,21]) (by kernel_rfl) (by simp) ?_
 refine AllReady.cons rfl (fun K hK=>?_) ?_
 ·simp only[ay,Tryz.f63]
  go_wp2_with (go_at_call 35;refine (aY D ao len cap zs base P bv n acts w W _ hR (by decide) (by decide)).mono ?_;rintro e w' ⟨v2,rfl,hv2,hr,hk⟩)
  exact AO D ao len cap zs base P bv n acts w Q HQ v1 v2 Bs w' hr hv1 hv2 (hN.bG hk)
 refine AllReady.cons rfl (fun K hK=>?_) ?_
 ·simp only[ay,Tryz.f63]
  go_simp
  refine hK _ _ ?_
  exact vU D ao len cap zs base P bv n acts w Q HQ v1 Bs _ _ (hR.alloc _) hv1 (hN.alloc _) (bf.make hR)
 exact AllReady.nil
theorem Az(D:Nat)(ao:Option Addr)(len cap:Nat)(zs:Nat->Int)(base P bv n:Nat)(acts:Int)(w:World)(Q:Exit->Act->World->Prop)(HQ:dB D ao len cap zs base P bv n acts w Q)(v1:Nat)(Bo:Nat)(W:World)(hR:bM D ao len cap zs base P bv n acts w W)(hv1:(v1:Int)<4)(hO:bf D w W Bo) :
 wpAny Tryz.prog .any ay Q 11 #[true,true,true,true,true,true,true,true,false,false,true,false,false,false,true,false,false,true,false,false,false,true,false] ⟨((.pointer (some ⟨P,0,none⟩)) :: (.pointer (some ⟨D,0,none⟩)) :: (undef) :: (undef) :: (.pointer (some ⟨w.heap.size,0,none⟩)) :: (.pointer (some ⟨Bo,0,none⟩)) :: (.pointer (some ⟨P,0,none⟩)) :: (.pointer (some ⟨P,0,none⟩)) :: (.pointer (some ⟨P,1,none⟩)) :: (.int .i64 (n:Int)) :: (.int .i64 (IntKind.i64.wrap ((n:Int)+1))) :: (.pointer (some ⟨D,0,none⟩)) :: (.int .i64 (v1:Int)) :: (.pointer (some ⟨D,0,none⟩)) :: (undef) :: (undef) :: (.pointer (some ⟨D,0,none⟩)) :: (undef) :: (undef) :: (undef) :: (.pointer (some ⟨D,0,none⟩)) :: (undef) :: (undef) :: (.pointer (some ⟨D,0,none⟩)) :: (undef) :: (undef) :: (undef) :: (undef) :: (undef) :: (undef) :: (undef) :: (undef) :: (undef) :: (undef) :: (undef) :: (undef) :: []).toArray,[]⟩ W:=by
 have hcell:=hR.cell
 have hlt:=hR.eG.lt
 refine wpAny_ready (rs:=[8,9]) (by kernel_rfl) (by simp) ?_
 refine AllReady.cons rfl (fun K hK=>?_) ?_
 ·simp only[ay,Tryz.f63]
  go_wp2_with (go_at_call 35;refine (aY D ao len cap zs base P bv n acts w W _ hR (by decide) (by decide)).mono ?_;rintro e w' ⟨v2,rfl,hv2,hr,hk⟩)
  exact AL D ao len cap zs base P bv n acts w Q HQ v1 v2 Bo w' hr hv1 hv2 (hO.bG hk)
 refine AllReady.cons rfl (fun K hK=>?_) ?_
 ·simp only[ay,Tryz.f63]
  go_simp
  refine hK _ _ ?_
  exact vU D ao len cap zs base P bv n acts w Q HQ v1 _ Bo _ (hR.alloc _) hv1 (bC.new hR) (hO.alloc _)
 exact AllReady.nil
theorem Au(D:Nat)(ao:Option Addr)(len cap:Nat)(zs:Nat->Int)(base P bv n:Nat)(acts:Int)(w:World)(Q:Exit->Act->World->Prop)(HQ:dB D ao len cap zs base P bv n acts w Q)(Bs:Nat)(Bo:Nat)(W:World)(hR:bM D ao len cap zs base P bv n acts w W)(hN:bC D W Bs)(hO:bf D w W Bo) :
 wpAny Tryz.prog .any ay Q 11 #[true,true,true,true,true,true,false,true,false,true,true,false,false,false,true,false,false,true,false,false,false,true,false] ⟨((.pointer (some ⟨P,0,none⟩)) :: (.pointer (some ⟨D,0,none⟩)) :: (undef) :: (undef) :: (.pointer (some ⟨w.heap.size,0,none⟩)) :: (.pointer (some ⟨Bo,0,none⟩)) :: (.pointer (some ⟨P,0,none⟩)) :: (.pointer (some ⟨P,0,none⟩)) :: (.pointer (some ⟨P,1,none⟩)) :: (.int .i64 (n:Int)) :: (.int .i64 (IntKind.i64.wrap ((n:Int)+1))) :: (.pointer (some ⟨D,0,none⟩)) :: (undef) :: (.pointer (some ⟨D,0,none⟩)) :: (undef) :: (.slice (some ⟨Bs,0,none⟩) 9 9) :: (.pointer (some ⟨D,0,none⟩)) :: (undef) :: (undef) :: (undef) :: (.pointer (some ⟨D,0,none⟩)) :: (undef) :: (undef) :: (.pointer (some ⟨D,0,none⟩)) :: (undef) :: (undef) :: (undef) :: (undef) :: (undef) :: (undef) :: (undef) :: (undef) :: (undef) :: (undef) :: (undef) :: (undef) :: []).toArray,[]⟩ W:=by
 have hcell:=hR.cell
 have hlt:=hR.eG.lt
 refine wpAny_ready (rs:=[6]) (by kernel_rfl) (by simp) ?_
 refine AllReady.cons rfl (fun K hK=>?_) ?_
 ·simp only[ay,Tryz.f63]
  go_wp2_with (go_at_call 35;refine (aY D ao len cap zs base P bv n acts w W _ hR (by decide) (by decide)).mono ?_;rintro e w' ⟨v1,rfl,hv1,hr,hk⟩)
  exact vU D ao len cap zs base P bv n acts w Q HQ v1 Bs Bo w' hr hv1 (hN.bG hk) (hO.bG hk)
 exact AllReady.nil
theorem Rf(D:Nat)(ao:Option Addr)(len cap:Nat)(zs:Nat->Int)(base P bv n:Nat)(acts:Int)(w:World)(Q:Exit->Act->World->Prop)(HQ:dB D ao len cap zs base P bv n acts w Q)(v1 v2 v3:Nat)(W:World)(hR:bM D ao len cap zs base P bv n acts w W)(hv1:(v1:Int)<4)(hv2:(v2:Int)<2)(hv3:(v3:Int)<9) :
 wpAny Tryz.prog .any ay Q 12 #[true,true,true,false,false,true,true,true,true,false,true,true,false,false,true,false,false,true,false,false,false,false,false] ⟨((.pointer (some ⟨P,0,none⟩)) :: (.pointer (some ⟨D,0,none⟩)) :: (undef) :: (undef) :: (.pointer (some ⟨w.heap.size,0,none⟩)) :: (undef) :: (.pointer (some ⟨P,0,none⟩)) :: (.pointer (some ⟨P,0,none⟩)) :: (.pointer (some ⟨P,1,none⟩)) :: (undef) :: (undef) :: (.pointer (some ⟨D,0,none⟩)) :: (.int .i64 (v1:Int)) :: (.pointer (some ⟨D,0,none⟩)) :: (.int .i64 (v2:Int)) :: (undef) :: (.pointer (some ⟨D,0,none⟩)) :: (.int .i64 (v3:Int)) :: (undef) :: (undef) :: (.pointer (some ⟨D,0,none⟩)) :: (undef) :: (undef) :: (.pointer (some ⟨D,0,none⟩)) :: (undef) :: (undef) :: (undef) :: (undef) :: (undef) :: (undef) :: (undef) :: (undef) :: (undef) :: (undef) :: (undef) :: (undef) :: []).toArray,[]⟩ W:=by
 have hcell:=hR.cell
 have hlt:=hR.eG.lt
 refine wpAny_ready (rs:=[3,9,15,21]) (by kernel_rfl) (by simp) ?_
 refine AllReady.cons rfl (fun K hK=>?_) ?_
 ·simp only[ay,Tryz.f63]
  go_simp
  refine hK _ _ ?_
  refine wpAny_take (i:=4) (v:=.int .i64 (IntKind.i64.wrap ((n:Int)+1))) rfl (by kernel_rfl) (by kernel_rfl) (by kernel_rfl) (fun _ _ _ h=>HQ.2 _ _ _ _ _ h) (Or.inl ⟨by rfl,fun w=>by simp only[ay,Tryz.f63];go_simp⟩) ?_
  exact Hz D ao len cap zs base P bv n acts w Q HQ v1 v2 v3 _ hR hv1 hv2 hv3
 refine AllReady.cons rfl (fun K hK=>?_) ?_
 ·simp only[ay,Tryz.f63]
  go_simp
  refine hK _ _ ?_
  have ja:v3<9:=by omega
  refine wpAny_take (i:=12) (v:=.pointer (some ⟨W.heap.size,v3,none⟩)) rfl (by kernel_rfl) (by kernel_rfl) (by kernel_rfl) (fun _ _ _ h=>HQ.2 _ _ _ _ _ h) (Or.inl ⟨by rfl,fun w=>by simp only[ay,Tryz.f63];go_simp⟩) ?_
  exact Hw D ao len cap zs base P bv n acts w Q HQ v1 v2 v3 _ _ (hR.alloc _) hv1 hv2 hv3 (bC.new hR)
 refine AllReady.cons rfl (fun K hK=>?_) ?_
 ·simp only[ay,Tryz.f63]
  go_wp2_with (go_at_call 35;refine (aY D ao len cap zs base P bv n acts w W _ hR (by decide) (by decide)).mono ?_;rintro e w' ⟨v4,rfl,hv4,hr,hk⟩)
  refine wpAny_take (i:=16) (v:=.int .i64 (IntKind.i64.wrap (95+(v4:Int)))) rfl (by kernel_rfl) (by kernel_rfl) (by kernel_rfl) (fun _ _ _ h=>HQ.2 _ _ _ _ _ h) (Or.inl ⟨by rfl,fun w=>by simp only[ay,Tryz.f63];go_simp⟩) ?_
  exact Ri D ao len cap zs base P bv n acts w Q HQ v1 v2 v3 v4 w' hr hv1 hv2 hv3 hv4
 refine AllReady.cons rfl (fun K hK=>?_) ?_
 ·simp only[ay,Tryz.f63]
  go_simp
  refine hK _ _ ?_
  exact Hu D ao len cap zs base P bv n acts w Q HQ v1 v2 v3 _ _ (hR.alloc _) hv1 hv2 hv3 (bf.make hR)
 exact AllReady.nil
theorem Hr(D:Nat)(ao:Option Addr)(len cap:Nat)(zs:Nat->Int)(base P bv n:Nat)(acts:Int)(w:World)(Q:Exit->Act->World->Prop)(HQ:dB D ao len cap zs base P bv n acts w Q)(v1 v2:Nat)(Bs:Nat)(W:World)(hR:bM D ao len cap zs base P bv n acts w W)(hv1:(v1:Int)<4)(hv2:(v2:Int)<2)(hN:bC D W Bs) :
 wpAny Tryz.prog .any ay Q 12 #[true,true,true,false,false,true,true,true,true,true,true,false,false,false,true,false,false,true,false,false,false,false,false] ⟨((.pointer (some ⟨P,0,none⟩)) :: (.pointer (some ⟨D,0,none⟩)) :: (undef) :: (undef) :: (.pointer (some ⟨w.heap.size,0,none⟩)) :: (undef) :: (.pointer (some ⟨P,0,none⟩)) :: (.pointer (some ⟨P,0,none⟩)) :: (.pointer (some ⟨P,1,none⟩)) :: (undef) :: (undef) :: (.pointer (some ⟨D,0,none⟩)) :: (.int .i64 (v1:Int)) :: (.pointer (some ⟨D,0,none⟩)) :: (.int .i64 (v2:Int)) :: (.slice (some ⟨Bs,0,none⟩) 9 9) :: (.pointer (some ⟨D,0,none⟩)) :: (undef) :: (undef) :: (undef) :: (.pointer (some ⟨D,0,none⟩)) :: (undef) :: (undef) :: (.pointer (some ⟨D,0,none⟩)) :: (undef) :: (undef) :: (undef) :: (undef) :: (undef) :: (undef) :: (undef) :: (undef) :: (undef) :: (undef) :: (undef) :: (undef) :: []).toArray,[]⟩ W:=by
 have hcell:=hR.cell
 have hlt:=hR.eG.lt
 refine wpAny_ready (rs:=[3,11,21]) (by kernel_rfl) (by simp) ?_
 refine AllReady.cons rfl (fun K hK=>?_) ?_
 ·simp only[ay,Tryz.f63]
  go_simp
  refine hK _ _ ?_
  refine wpAny_take (i:=4) (v:=.int .i64 (IntKind.i64.wrap ((n:Int)+1))) rfl (by kernel_rfl) (by kernel_rfl) (by kernel_rfl) (fun _ _ _ h=>HQ.2 _ _ _ _ _ h) (Or.inl ⟨by rfl,fun w=>by simp only[ay,Tryz.f63];go_simp⟩) ?_
  exact AO D ao len cap zs base P bv n acts w Q HQ v1 v2 Bs _ hR hv1 hv2 hN
 refine AllReady.cons rfl (fun K hK=>?_) ?_
 ·simp only[ay,Tryz.f63]
  go_wp2_with (go_at_call 35;refine (aY D ao len cap zs base P bv n acts w W _ hR (by decide) (by decide)).mono ?_;rintro e w' ⟨v3,rfl,hv3,hr,hk⟩)
  have ja:v3<9:=by omega
  refine wpAny_take (i:=12) (v:=.pointer (some ⟨Bs,v3,none⟩)) rfl (by kernel_rfl) (by kernel_rfl) (by kernel_rfl) (fun _ _ _ h=>HQ.2 _ _ _ _ _ h) (Or.inl ⟨by rfl,fun w=>by simp only[ay,Tryz.f63];go_simp⟩) ?_
  exact Hw D ao len cap zs base P bv n acts w Q HQ v1 v2 v3 Bs w' hr hv1 hv2 hv3 (hN.bG hk)
 refine AllReady.cons rfl (fun K hK=>?_) ?_
 ·simp only[ay,Tryz.f63]
  go_simp
  refine hK _ _ ?_
  exact AB D ao len cap zs base P bv n acts w Q HQ v1 v2 Bs _ _ (hR.alloc _) hv1 hv2 (hN.alloc _) (bf.make hR)
 exact AllReady.nil
theorem Hq(D:Nat)(ao:Option Addr)(len cap:Nat)(zs:Nat->Int)(base P bv n:Nat)(acts:Int)(w:World)(Q:Exit->Act->World->Prop)(HQ:dB D ao len cap zs base P bv n acts w Q)(v1 v2:Nat)(Bo:Nat)(W:World)(hR:bM D ao len cap zs base P bv n acts w W)(hv1:(v1:Int)<4)(hv2:(v2:Int)<2)(hO:bf D w W Bo) :
 wpAny Tryz.prog .any ay Q 12 #[true,true,true,false,false,true,true,true,true,false,true,false,false,false,true,false,false,true,false,false,false,true,false] ⟨((.pointer (some ⟨P,0,none⟩)) :: (.pointer (some ⟨D,0,none⟩)) :: (undef) :: (undef) :: (.pointer (some ⟨w.heap.size,0,none⟩)) :: (.pointer (some ⟨Bo,0,none⟩)) :: (.pointer (some ⟨P,0,none⟩)) :: (.pointer (some ⟨P,0,none⟩)) :: (.pointer (some ⟨P,1,none⟩)) :: (undef) :: (undef) :: (.pointer (some ⟨D,0,none⟩)) :: (.int .i64 (v1:Int)) :: (.pointer (some ⟨D,0,none⟩)) :: (.int .i64 (v2:Int)) :: (undef) :: (.pointer (some ⟨D,0,none⟩)) :: (undef) :: (undef) :: (undef) :: (.pointer (some ⟨D,0,none⟩)) :: (undef) :: (undef) :: (.pointer (some ⟨D,0,none⟩)) :: (undef) :: (undef) :: (undef) :: (undef) :: (undef) :: (undef) :: (undef) :: (undef) :: (undef) :: (undef) :: (undef) :: (undef) :: []).toArray,[]⟩ W:=by
 have hcell:=hR.cell
 have hlt:=hR.eG.lt
 refine wpAny_ready (rs:=[3,9,11]) (by kernel_rfl) (by simp) ?_
 refine AllReady.cons rfl (fun K hK=>?_) ?_
 ·simp only[ay,Tryz.f63]
  go_simp
  refine hK _ _ ?_
  refine wpAny_take (i:=4) (v:=.int .i64 (IntKind.i64.wrap ((n:Int)+1))) rfl (by kernel_rfl) (by kernel_rfl) (by kernel_rfl) (fun _ _ _ h=>HQ.2 _ _ _ _ _ h) (Or.inl ⟨by rfl,fun w=>by simp only[ay,Tryz.f63];go_simp⟩) ?_
  exact AL D ao len cap zs base P bv n acts w Q HQ v1 v2 Bo _ hR hv1 hv2 hO
 refine AllReady.cons rfl (fun K hK=>?_) ?_
 ·simp only[ay,Tryz.f63]
  go_simp
  refine hK _ _ ?_
  exact AB D ao len cap zs base P bv n acts w Q HQ v1 v2 _ Bo _ (hR.alloc _) hv1 hv2 (bC.new hR) (hO.alloc _)
 refine AllReady.cons rfl (fun K hK=>?_) ?_
 ·simp only[ay,Tryz.f63]
  go_wp2_with (go_at_call 35;refine (aY D ao len cap zs base P bv n acts w W _ hR (by decide) (by decide)).mono ?_;rintro e w' ⟨v3,rfl,hv3,hr,hk⟩)
  exact Hu D ao len cap zs base P bv n acts w Q HQ v1 v2 v3 Bo w' hr hv1 hv2 hv3 (hO.bG hk)
 exact AllReady.nil
theorem Ho(D:Nat)(ao:Option Addr)(len cap:Nat)(zs:Nat->Int)(base P bv n:Nat)(acts:Int)(w:World)(Q:Exit->Act->World->Prop)(HQ:dB D ao len cap zs base P bv n acts w Q)(v1:Nat)(W:World)(hR:bM D ao len cap zs base P bv n acts w W)(hv1:(v1:Int)<4) :
 wpAny Tryz.prog .any ay Q 12 #[true,true,true,true,true,true,true,true,false,false,true,false,false,false,true,false,false,true,false,false,false,false,false] ⟨((.pointer (some ⟨P,0,none⟩)) :: (.pointer (some ⟨D,0,none⟩)) :: (undef) :: (undef) :: (.pointer (some ⟨w.heap.size,0,none⟩)) :: (undef) :: (.pointer (some ⟨P,0,none⟩)) :: (.pointer (some ⟨P,0,none⟩)) :: (.pointer (some ⟨P,1,none⟩)) :: (.int .i64 (n:Int)) :: (.int .i64 (IntKind.i64.wrap ((n:Int)+1))) :: (.pointer (some ⟨D,0,none⟩)) :: (.int .i64 (v1:Int)) :: (.pointer (some ⟨D,0,none⟩)) :: (undef) :: (undef) :: (.pointer (some ⟨D,0,none⟩)) :: (undef) :: (undef) :: (undef) :: (.pointer (some ⟨D,0,none⟩)) :: (undef) :: (undef) :: (.pointer (some ⟨D,0,none⟩)) :: (undef) :: (undef) :: (undef) :: (undef) :: (undef) :: (undef) :: (undef) :: (undef) :: (undef) :: (undef) :: (undef) :: (undef) :: []).toArray,[]⟩ W:=by
 have hcell:=hR.cell
 have hlt:=hR.eG.lt
 refine wpAny_ready (rs:=[8,9,21]) (by kernel_rfl) (by simp) ?_
 refine AllReady.cons rfl (fun K hK=>?_) ?_
 ·simp only[ay,Tryz.f63]
  go_wp2_with (go_at_call 35;refine (aY D ao len cap zs base P bv n acts w W _ hR (by decide) (by decide)).mono ?_;rintro e w' ⟨v2,rfl,hv2,hr,hk⟩)
  exact Ht D ao len cap zs base P bv n acts w Q HQ v1 v2 w' hr hv1 hv2
 refine AllReady.cons rfl (fun K hK=>?_) ?_
 ·simp only[ay,Tryz.f63]
  go_simp
  refine hK _ _ ?_
  exact AA D ao len cap zs base P bv n acts w Q HQ v1 _ _ (hR.alloc _) hv1 (bC.new hR)
 refine AllReady.cons rfl (fun K hK=>?_) ?_
 ·simp only[ay,Tryz.f63]
  go_simp
  refine hK _ _ ?_
  exact Az D ao len cap zs base P bv n acts w Q HQ v1 _ _ (hR.alloc _) hv1 (bf.make hR)
 exact AllReady.nil
theorem Aw(D:Nat)(ao:Option Addr)(len cap:Nat)(zs:Nat->Int)(base P bv n:Nat)(acts:Int)(w:World)(Q:Exit->Act->World->Prop)(HQ:dB D ao len cap zs base P bv n acts w Q)(v1:Nat)(Bs:Nat)(Bo:Nat)(W:World)(hR:bM D ao len cap zs base P bv n acts w W)(hv1:(v1:Int)<4)(hN:bC D W Bs)(hO:bf D w W Bo) :
 wpAny Tryz.prog .any ay Q 12 #[true,true,true,false,false,true,true,true,false,true,true,false,false,false,true,false,false,true,false,false,false,true,false] ⟨((.pointer (some ⟨P,0,none⟩)) :: (.pointer (some ⟨D,0,none⟩)) :: (undef) :: (undef) :: (.pointer (some ⟨w.heap.size,0,none⟩)) :: (.pointer (some ⟨Bo,0,none⟩)) :: (.pointer (some ⟨P,0,none⟩)) :: (.pointer (some ⟨P,0,none⟩)) :: (.pointer (some ⟨P,1,none⟩)) :: (undef) :: (undef) :: (.pointer (some ⟨D,0,none⟩)) :: (.int .i64 (v1:Int)) :: (.pointer (some ⟨D,0,none⟩)) :: (undef) :: (.slice (some ⟨Bs,0,none⟩) 9 9) :: (.pointer (some ⟨D,0,none⟩)) :: (undef) :: (undef) :: (undef) :: (.pointer (some ⟨D,0,none⟩)) :: (undef) :: (undef) :: (.pointer (some ⟨D,0,none⟩)) :: (undef) :: (undef) :: (undef) :: (undef) :: (undef) :: (undef) :: (undef) :: (undef) :: (undef) :: (undef) :: (undef) :: (undef) :: []).toArray,[]⟩ W:=by
 have hcell:=hR.cell
 have hlt:=hR.eG.lt
 refine wpAny_ready (rs:=[3,8]) (by kernel_rfl) (by simp) ?_
 refine AllReady.cons rfl (fun K hK=>?_) ?_
 ·simp only[ay,Tryz.f63]
  go_simp
  refine hK _ _ ?_
  refine wpAny_take (i:=4) (v:=.int .i64 (IntKind.i64.wrap ((n:Int)+1))) rfl (by kernel_rfl) (by kernel_rfl) (by kernel_rfl) (fun _ _ _ h=>HQ.2 _ _ _ _ _ h) (Or.inl ⟨by rfl,fun w=>by simp only[ay,Tryz.f63];go_simp⟩) ?_
  exact vU D ao len cap zs base P bv n acts w Q HQ v1 Bs Bo _ hR hv1 hN hO
 refine AllReady.cons rfl (fun K hK=>?_) ?_
 ·simp only[ay,Tryz.f63]
  go_wp2_with (go_at_call 35;refine (aY D ao len cap zs base P bv n acts w W _ hR (by decide) (by decide)).mono ?_;rintro e w' ⟨v2,rfl,hv2,hr,hk⟩)
  exact AB D ao len cap zs base P bv n acts w Q HQ v1 v2 Bs Bo w' hr hv1 hv2 (hN.bG hk) (hO.bG hk)
 exact AllReady.nil
theorem Hg(D:Nat)(ao:Option Addr)(len cap:Nat)(zs:Nat->Int)(base P bv n:Nat)(acts:Int)(w:World)(Q:Exit->Act->World->Prop)(HQ:dB D ao len cap zs base P bv n acts w Q)(Bs:Nat)(W:World)(hR:bM D ao len cap zs base P bv n acts w W)(hN:bC D W Bs) :
 wpAny Tryz.prog .any ay Q 12 #[true,true,true,true,true,true,false,true,false,true,true,false,false,false,true,false,false,true,false,false,false,false,false] ⟨((.pointer (some ⟨P,0,none⟩)) :: (.pointer (some ⟨D,0,none⟩)) :: (undef) :: (undef) :: (.pointer (some ⟨w.heap.size,0,none⟩)) :: (undef) :: (.pointer (some ⟨P,0,none⟩)) :: (.pointer (some ⟨P,0,none⟩)) :: (.pointer (some ⟨P,1,none⟩)) :: (.int .i64 (n:Int)) :: (.int .i64 (IntKind.i64.wrap ((n:Int)+1))) :: (.pointer (some ⟨D,0,none⟩)) :: (undef) :: (.pointer (some ⟨D,0,none⟩)) :: (undef) :: (.slice (some ⟨Bs,0,none⟩) 9 9) :: (.pointer (some ⟨D,0,none⟩)) :: (undef) :: (undef) :: (undef) :: (.pointer (some ⟨D,0,none⟩)) :: (undef) :: (undef) :: (.pointer (some ⟨D,0,none⟩)) :: (undef) :: (undef) :: (undef) :: (undef) :: (undef) :: (undef) :: (undef) :: (undef) :: (undef) :: (undef) :: (undef) :: (undef) :: []).toArray,[]⟩ W:=by
 have hcell:=hR.cell
 have hlt:=hR.eG.lt
 refine wpAny_ready (rs:=[6,21]) (by kernel_rfl) (by simp) ?_
 refine AllReady.cons rfl (fun K hK=>?_) ?_
 ·simp only[ay,Tryz.f63]
  go_wp2_with (go_at_call 35;refine (aY D ao len cap zs base P bv n acts w W _ hR (by decide) (by decide)).mono ?_;rintro e w' ⟨v1,rfl,hv1,hr,hk⟩)
  exact AA D ao len cap zs base P bv n acts w Q HQ v1 Bs w' hr hv1 (hN.bG hk)
 refine AllReady.cons rfl (fun K hK=>?_) ?_
 ·simp only[ay,Tryz.f63]
  go_simp
  refine hK _ _ ?_
  exact Au D ao len cap zs base P bv n acts w Q HQ Bs _ _ (hR.alloc _) (hN.alloc _) (bf.make hR)
 exact AllReady.nil
theorem Hf(D:Nat)(ao:Option Addr)(len cap:Nat)(zs:Nat->Int)(base P bv n:Nat)(acts:Int)(w:World)(Q:Exit->Act->World->Prop)(HQ:dB D ao len cap zs base P bv n acts w Q)(Bo:Nat)(W:World)(hR:bM D ao len cap zs base P bv n acts w W)(hO:bf D w W Bo) :
 wpAny Tryz.prog .any ay Q 12 #[true,true,true,true,true,true,false,true,false,false,true,false,false,false,true,false,false,true,false,false,false,true,false] ⟨((.pointer (some ⟨P,0,none⟩)) :: (.pointer (some ⟨D,0,none⟩)) :: (undef) :: (undef) :: (.pointer (some ⟨w.heap.size,0,none⟩)) :: (.pointer (some ⟨Bo,0,none⟩)) :: (.pointer (some ⟨P,0,none⟩)) :: (.pointer (some ⟨P,0,none⟩)) :: (.pointer (some ⟨P,1,none⟩)) :: (.int .i64 (n:Int)) :: (.int .i64 (IntKind.i64.wrap ((n:Int)+1))) :: (.pointer (some ⟨D,0,none⟩)) :: (undef) :: (.pointer (some ⟨D,0,none⟩)) :: (undef) :: (undef) :: (.pointer (some ⟨D,0,none⟩)) :: (undef) :: (undef) :: (undef) :: (.pointer (some ⟨D,0,none⟩)) :: (undef) :: (undef) :: (.pointer (some ⟨D,0,none⟩)) :: (undef) :: (undef) :: (undef) :: (undef) :: (undef) :: (undef) :: (undef) :: (undef) :: (undef) :: (undef) :: (undef) :: (undef) :: []).toArray,[]⟩ W:=by
 have hcell:=hR.cell
 have hlt:=hR.eG.lt
 refine wpAny_ready (rs:=[6,9]) (by kernel_rfl) (by simp) ?_
 refine AllReady.cons rfl (fun K hK=>?_) ?_
 ·simp only[ay,Tryz.f63]
  go_wp2_with (go_at_call 35;refine (aY D ao len cap zs base P bv n acts w W _ hR (by decide) (by decide)).mono ?_;rintro e w' ⟨v1,rfl,hv1,hr,hk⟩)
  exact Az D ao len cap zs base P bv n acts w Q HQ v1 Bo w' hr hv1 (hO.bG hk)
 refine AllReady.cons rfl (fun K hK=>?_) ?_
 ·simp only[ay,Tryz.f63]
  go_simp
  refine hK _ _ ?_
  exact Au D ao len cap zs base P bv n acts w Q HQ _ Bo _ (hR.alloc _) (bC.new hR) (hO.alloc _)
 exact AllReady.nil
theorem Q9(D:Nat)(ao:Option Addr)(len cap:Nat)(zs:Nat->Int)(base P bv n:Nat)(acts:Int)(w:World)(Q:Exit->Act->World->Prop)(HQ:dB D ao len cap zs base P bv n acts w Q)(v1 v2:Nat)(W:World)(hR:bM D ao len cap zs base P bv n acts w W)(hv1:(v1:Int)<4)(hv2:(v2:Int)<2) :
 wpAny Tryz.prog .any ay Q 13 #[true,true,true,false,false,true,true,true,true,false,true,false,false,false,true,false,false,true,false,false,false,false,false] ⟨((.pointer (some ⟨P,0,none⟩)) :: (.pointer (some ⟨D,0,none⟩)) :: (undef) :: (undef) :: (.pointer (some ⟨w.heap.size,0,none⟩)) :: (undef) :: (.pointer (some ⟨P,0,none⟩)) :: (.pointer (some ⟨P,0,none⟩)) :: (.pointer (some ⟨P,1,none⟩)) :: (undef) :: (undef) :: (.pointer (some ⟨D,0,none⟩)) :: (.int .i64 (v1:Int)) :: (.pointer (some ⟨D,0,none⟩)) :: (.int .i64 (v2:Int)) :: (undef) :: (.pointer (some ⟨D,0,none⟩)) :: (undef) :: (undef) :: (undef) :: (.pointer (some ⟨D,0,none⟩)) :: (undef) :: (undef) :: (.pointer (some ⟨D,0,none⟩)) :: (undef) :: (undef) :: (undef) :: (undef) :: (undef) :: (undef) :: (undef) :: (undef) :: (undef) :: (undef) :: (undef) :: (undef) :: []).toArray,[]⟩ W:=by
 have hcell:=hR.cell
 have hlt:=hR.eG.lt
 refine wpAny_ready (rs:=[3,9,11,21]) (by kernel_rfl) (by simp) ?_
 refine AllReady.cons rfl (fun K hK=>?_) ?_
 ·simp only[ay,Tryz.f63]
  go_simp
  refine hK _ _ ?_
  refine wpAny_take (i:=4) (v:=.int .i64 (IntKind.i64.wrap ((n:Int)+1))) rfl (by kernel_rfl) (by kernel_rfl) (by kernel_rfl) (fun _ _ _ h=>HQ.2 _ _ _ _ _ h) (Or.inl ⟨by rfl,fun w=>by simp only[ay,Tryz.f63];go_simp⟩) ?_
  exact Ht D ao len cap zs base P bv n acts w Q HQ v1 v2 _ hR hv1 hv2
 refine AllReady.cons rfl (fun K hK=>?_) ?_
 ·simp only[ay,Tryz.f63]
  go_simp
  refine hK _ _ ?_
  exact Hr D ao len cap zs base P bv n acts w Q HQ v1 v2 _ _ (hR.alloc _) hv1 hv2 (bC.new hR)
 refine AllReady.cons rfl (fun K hK=>?_) ?_
 ·simp only[ay,Tryz.f63]
  go_wp2_with (go_at_call 35;refine (aY D ao len cap zs base P bv n acts w W _ hR (by decide) (by decide)).mono ?_;rintro e w' ⟨v3,rfl,hv3,hr,hk⟩)
  exact Rf D ao len cap zs base P bv n acts w Q HQ v1 v2 v3 w' hr hv1 hv2 hv3
 refine AllReady.cons rfl (fun K hK=>?_) ?_
 ·simp only[ay,Tryz.f63]
  go_simp
  refine hK _ _ ?_
  exact Hq D ao len cap zs base P bv n acts w Q HQ v1 v2 _ _ (hR.alloc _) hv1 hv2 (bf.make hR)
 exact AllReady.nil
theorem Hm(D:Nat)(ao:Option Addr)(len cap:Nat)(zs:Nat->Int)(base P bv n:Nat)(acts:Int)(w:World)(Q:Exit->Act->World->Prop)(HQ:dB D ao len cap zs base P bv n acts w Q)(v1:Nat)(Bs:Nat)(W:World)(hR:bM D ao len cap zs base P bv n acts w W)(hv1:(v1:Int)<4)(hN:bC D W Bs) :
 wpAny Tryz.prog .any ay Q 13 #[true,true,true,false,false,true,true,true,false,true,true,false,false,false,true,false,false,true,false,false,false,false,false] ⟨((.pointer (some ⟨P,0,none⟩)) :: (.pointer (some ⟨D,0,none⟩)) :: (undef) :: (undef) :: (.pointer (some ⟨w.heap.size,0,none⟩)) :: (undef) :: (.pointer (some ⟨P,0,none⟩)) :: (.pointer (some ⟨P,0,none⟩)) :: (.pointer (some ⟨P,1,none⟩)) :: (undef) :: (undef) :: (.pointer (some ⟨D,0,none⟩)) :: (.int .i64 (v1:Int)) :: (.pointer (some ⟨D,0,none⟩)) :: (undef) :: (.slice (some ⟨Bs,0,none⟩) 9 9) :: (.pointer (some ⟨D,0,none⟩)) :: (undef) :: (undef) :: (undef) :: (.pointer (some ⟨D,0,none⟩)) :: (undef) :: (undef) :: (.pointer (some ⟨D,0,none⟩)) :: (undef) :: (undef) :: (undef) :: (undef) :: (undef) :: (undef) :: (undef) :: (undef) :: (undef) :: (undef) :: (undef) :: (undef) :: []).toArray,[]⟩ W:=by
 have hcell:=hR.cell
 have hlt:=hR.eG.lt
 refine wpAny_ready (rs:=[3,8,21]) (by kernel_rfl) (by simp) ?_
 refine AllReady.cons rfl (fun K hK=>?_) ?_
 ·simp only[ay,Tryz.f63]
  go_simp
  refine hK _ _ ?_
  refine wpAny_take (i:=4) (v:=.int .i64 (IntKind.i64.wrap ((n:Int)+1))) rfl (by kernel_rfl) (by kernel_rfl) (by kernel_rfl) (fun _ _ _ h=>HQ.2 _ _ _ _ _ h) (Or.inl ⟨by rfl,fun w=>by simp only[ay,Tryz.f63];go_simp⟩) ?_
  exact AA D ao len cap zs base P bv n acts w Q HQ v1 Bs _ hR hv1 hN
 refine AllReady.cons rfl (fun K hK=>?_) ?_
 ·simp only[ay,Tryz.f63]
  go_wp2_with (go_at_call 35;refine (aY D ao len cap zs base P bv n acts w W _ hR (by decide) (by decide)).mono ?_;rintro e w' ⟨v2,rfl,hv2,hr,hk⟩)
  exact Hr D ao len cap zs base P bv n acts w Q HQ v1 v2 Bs w' hr hv1 hv2 (hN.bG hk)
 refine AllReady.cons rfl (fun K hK=>?_) ?_
 ·simp only[ay,Tryz.f63]
  go_simp
  refine hK _ _ ?_
  exact Aw D ao len cap zs base P bv n acts w Q HQ v1 Bs _ _ (hR.alloc _) hv1 (hN.alloc _) (bf.make hR)
 exact AllReady.nil
theorem Hl(D:Nat)(ao:Option Addr)(len cap:Nat)(zs:Nat->Int)(base P bv n:Nat)(acts:Int)(w:World)(Q:Exit->Act->World->Prop)(HQ:dB D ao len cap zs base P bv n acts w Q)(v1:Nat)(Bo:Nat)(W:World)(hR:bM D ao len cap zs base P bv n acts w W)(hv1:(v1:Int)<4)(hO:bf D w W Bo) :
 wpAny Tryz.prog .any ay Q 13 #[true,true,true,false,false,true,true,true,false,false,true,false,false,false,true,false,false,true,false,false,false,true,false] ⟨((.pointer (some ⟨P,0,none⟩)) :: (.pointer (some ⟨D,0,none⟩)) :: (undef) :: (undef) :: (.pointer (some ⟨w.heap.size,0,none⟩)) :: (.pointer (some ⟨Bo,0,none⟩)) :: (.pointer (some ⟨P,0,none⟩)) :: (.pointer (some ⟨P,0,none⟩)) :: (.pointer (some ⟨P,1,none⟩)) :: (undef) :: (undef) :: (.pointer (some ⟨D,0,none⟩)) :: (.int .i64 (v1:Int)) :: (.pointer (some ⟨D,0,none⟩)) :: (undef) :: (undef) :: (.pointer (some ⟨D,0,none⟩)) :: (undef) :: (undef) :: (undef) :: (.pointer (some ⟨D,0,none⟩)) :: (undef) :: (undef) :: (.pointer (some ⟨D,0,none⟩)) :: (undef) :: (undef) :: (undef) :: (undef) :: (undef) :: (undef) :: (undef) :: (undef) :: (undef) :: (undef) :: (undef) :: (undef) :: []).toArray,[]⟩ W:=by
 have hcell:=hR.cell
 have hlt:=hR.eG.lt
 refine wpAny_ready (rs:=[3,8,9]) (by kernel_rfl) (by simp) ?_
 refine AllReady.cons rfl (fun K hK=>?_) ?_
 ·simp only[ay,Tryz.f63]
  go_simp
  refine hK _ _ ?_
  refine wpAny_take (i:=4) (v:=.int .i64 (IntKind.i64.wrap ((n:Int)+1))) rfl (by kernel_rfl) (by kernel_rfl) (by kernel_rfl) (fun _ _ _ h=>HQ.2 _ _ _ _ _ h) (Or.inl ⟨by rfl,fun w=>by simp only[ay,Tryz.f63];go_simp⟩) ?_
  exact Az D ao len cap zs base P bv n acts w Q HQ v1 Bo _ hR hv1 hO
 refine AllReady.cons rfl (fun K hK=>?_) ?_
 ·simp only[ay,Tryz.f63]
  go_wp2_with (go_at_call 35;refine (aY D ao len cap zs base P bv n acts w W _ hR (by decide) (by decide)).mono ?_;rintro e w' ⟨v2,rfl,hv2,hr,hk⟩)
  exact Hq D ao len cap zs base P bv n acts w Q HQ v1 v2 Bo w' hr hv1 hv2 (hO.bG hk)
 refine AllReady.cons rfl (fun K hK=>?_) ?_
 ·simp only[ay,Tryz.f63]
  go_simp
  refine hK _ _ ?_
  exact Aw D ao len cap zs base P bv n acts w Q HQ v1 _ Bo _ (hR.alloc _) hv1 (bC.new hR) (hO.alloc _)
 exact AllReady.nil
theorem Q7(D:Nat)(ao:Option Addr)(len cap:Nat)(zs:Nat->Int)(base P bv n:Nat)(acts:Int)(w:World)(Q:Exit->Act->World->Prop)(HQ:dB D ao len cap zs base P bv n acts w Q)(W:World)(hR:bM D ao len cap zs base P bv n acts w W) :
 wpAny Tryz.prog .any ay Q 13 #[true,true,true,true,true,true,false,true,false,false,true,false,false,false,true,false,false,true,false,false,false,false,false] ⟨((.pointer (some ⟨P,0,none⟩)) :: (.pointer (some ⟨D,0,none⟩)) :: (undef) :: (undef) :: (.pointer (some ⟨w.heap.size,0,none⟩)) :: (undef) :: (.pointer (some ⟨P,0,none⟩)) :: (.pointer (some ⟨P,0,none⟩)) :: (.pointer (some ⟨P,1,none⟩)) :: (.int .i64 (n:Int)) :: (.int .i64 (IntKind.i64.wrap ((n:Int)+1))) :: (.pointer (some ⟨D,0,none⟩)) :: (undef) :: (.pointer (some ⟨D,0,none⟩)) :: (undef) :: (undef) :: (.pointer (some ⟨D,0,none⟩)) :: (undef) :: (undef) :: (undef) :: (.pointer (some ⟨D,0,none⟩)) :: (undef) :: (undef) :: (.pointer (some ⟨D,0,none⟩)) :: (undef) :: (undef) :: (undef) :: (undef) :: (undef) :: (undef) :: (undef) :: (undef) :: (undef) :: (undef) :: (undef) :: (undef) :: []).toArray,[]⟩ W:=by
 have hcell:=hR.cell
 have hlt:=hR.eG.lt
 refine wpAny_ready (rs:=[6,9,21]) (by kernel_rfl) (by simp) ?_
 refine AllReady.cons rfl (fun K hK=>?_) ?_
 ·simp only[ay,Tryz.f63]
  go_wp2_with (go_at_call 35;refine (aY D ao len cap zs base P bv n acts w W _ hR (by decide) (by decide)).mono ?_;rintro e w' ⟨v1,rfl,hv1,hr,hk⟩)
  exact Ho D ao len cap zs base P bv n acts w Q HQ v1 w' hr hv1
 refine AllReady.cons rfl (fun K hK=>?_) ?_
 ·simp only[ay,Tryz.f63]
  go_simp
  refine hK _ _ ?_
  exact Hg D ao len cap zs base P bv n acts w Q HQ _ _ (hR.alloc _) (bC.new hR)
 refine AllReady.cons rfl (fun K hK=>?_) ?_
 ·simp only[ay,Tryz.f63]
  go_simp
  refine hK _ _ ?_
  exact Hf D ao len cap zs base P bv n acts w Q HQ _ _ (hR.alloc _) (bf.make hR)
 exact AllReady.nil
theorem He(D:Nat)(ao:Option Addr)(len cap:Nat)(zs:Nat->Int)(base P bv n:Nat)(acts:Int)(w:World)(Q:Exit->Act->World->Prop)(HQ:dB D ao len cap zs base P bv n acts w Q)(Bs:Nat)(Bo:Nat)(W:World)(hR:bM D ao len cap zs base P bv n acts w W)(hN:bC D W Bs)(hO:bf D w W Bo) :
 wpAny Tryz.prog .any ay Q 13 #[true,true,true,false,false,true,false,true,false,true,true,false,false,false,true,false,false,true,false,false,false,true,false] ⟨((.pointer (some ⟨P,0,none⟩)) :: (.pointer (some ⟨D,0,none⟩)) :: (undef) :: (undef) :: (.pointer (some ⟨w.heap.size,0,none⟩)) :: (.pointer (some ⟨Bo,0,none⟩)) :: (.pointer (some ⟨P,0,none⟩)) :: (.pointer (some ⟨P,0,none⟩)) :: (.pointer (some ⟨P,1,none⟩)) :: (undef) :: (undef) :: (.pointer (some ⟨D,0,none⟩)) :: (undef) :: (.pointer (some ⟨D,0,none⟩)) :: (undef) :: (.slice (some ⟨Bs,0,none⟩) 9 9) :: (.pointer (some ⟨D,0,none⟩)) :: (undef) :: (undef) :: (undef) :: (.pointer (some ⟨D,0,none⟩)) :: (undef) :: (undef) :: (.pointer (some ⟨D,0,none⟩)) :: (undef) :: (undef) :: (undef) :: (undef) :: (undef) :: (undef) :: (undef) :: (undef) :: (undef) :: (undef) :: (undef) :: (undef) :: []).toArray,[]⟩ W:=by
 have hcell:=hR.cell
 have hlt:=hR.eG.lt
 refine wpAny_ready (rs:=[3,6]) (by kernel_rfl) (by simp) ?_
 refine AllReady.cons rfl (fun K hK=>?_) ?_
 ·simp only[ay,Tryz.f63]
  go_simp
  refine hK _ _ ?_
  refine wpAny_take (i:=4) (v:=.int .i64 (IntKind.i64.wrap ((n:Int)+1))) rfl (by kernel_rfl) (by kernel_rfl) (by kernel_rfl) (fun _ _ _ h=>HQ.2 _ _ _ _ _ h) (Or.inl ⟨by rfl,fun w=>by simp only[ay,Tryz.f63];go_simp⟩) ?_
  exact Au D ao len cap zs base P bv n acts w Q HQ Bs Bo _ hR hN hO
 refine AllReady.cons rfl (fun K hK=>?_) ?_
 ·simp only[ay,Tryz.f63]
  go_wp2_with (go_at_call 35;refine (aY D ao len cap zs base P bv n acts w W _ hR (by decide) (by decide)).mono ?_;rintro e w' ⟨v1,rfl,hv1,hr,hk⟩)
  exact Aw D ao len cap zs base P bv n acts w Q HQ v1 Bs Bo w' hr hv1 (hN.bG hk) (hO.bG hk)
 exact AllReady.nil
theorem Q8(D:Nat)(ao:Option Addr)(len cap:Nat)(zs:Nat->Int)(base P bv n:Nat)(acts:Int)(w:World)(Q:Exit->Act->World->Prop)(HQ:dB D ao len cap zs base P bv n acts w Q)(v1:Nat)(W:World)(hR:bM D ao len cap zs base P bv n acts w W)(hv1:(v1:Int)<4) :
 wpAny Tryz.prog .any ay Q 14 #[true,true,true,false,false,true,true,true,false,false,true,false,false,false,true,false,false,true,false,false,false,false,false] ⟨((.pointer (some ⟨P,0,none⟩)) :: (.pointer (some ⟨D,0,none⟩)) :: (undef) :: (undef) :: (.pointer (some ⟨w.heap.size,0,none⟩)) :: (undef) :: (.pointer (some ⟨P,0,none⟩)) :: (.pointer (some ⟨P,0,none⟩)) :: (.pointer (some ⟨P,1,none⟩)) :: (undef) :: (undef) :: (.pointer (some ⟨D,0,none⟩)) :: (.int .i64 (v1:Int)) :: (.pointer (some ⟨D,0,none⟩)) :: (undef) :: (undef) :: (.pointer (some ⟨D,0,none⟩)) :: (undef) :: (undef) :: (undef) :: (.pointer (some ⟨D,0,none⟩)) :: (undef) :: (undef) :: (.pointer (some ⟨D,0,none⟩)) :: (undef) :: (undef) :: (undef) :: (undef) :: (undef) :: (undef) :: (undef) :: (undef) :: (undef) :: (undef) :: (undef) :: (undef) :: []).toArray,[]⟩ W:=by
 have hcell:=hR.cell
 have hlt:=hR.eG.lt
 refine wpAny_ready (rs:=[3,8,9,21]) (by kernel_rfl) (by simp) ?_
 refine AllReady.cons rfl (fun K hK=>?_) ?_
 ·simp only[ay,Tryz.f63]
  go_simp
  refine hK _ _ ?_
  refine wpAny_take (i:=4) (v:=.int .i64 (IntKind.i64.wrap ((n:Int)+1))) rfl (by kernel_rfl) (by kernel_rfl) (by kernel_rfl) (fun _ _ _ h=>HQ.2 _ _ _ _ _ h) (Or.inl ⟨by rfl,fun w=>by simp only[ay,Tryz.f63];go_simp⟩) ?_
  exact Ho D ao len cap zs base P bv n acts w Q HQ v1 _ hR hv1
 refine AllReady.cons rfl (fun K hK=>?_) ?_
 ·simp only[ay,Tryz.f63]
  go_wp2_with (go_at_call 35;refine (aY D ao len cap zs base P bv n acts w W _ hR (by decide) (by decide)).mono ?_;rintro e w' ⟨v2,rfl,hv2,hr,hk⟩)
  exact Q9 D ao len cap zs base P bv n acts w Q HQ v1 v2 w' hr hv1 hv2
 refine AllReady.cons rfl (fun K hK=>?_) ?_
 ·simp only[ay,Tryz.f63]
  go_simp
  refine hK _ _ ?_
  exact Hm D ao len cap zs base P bv n acts w Q HQ v1 _ _ (hR.alloc _) hv1 (bC.new hR)
 refine AllReady.cons rfl (fun K hK=>?_) ?_
 ·simp only[ay,Tryz.f63]
  go_simp
  refine hK _ _ ?_
  exact Hl D ao len cap zs base P bv n acts w Q HQ v1 _ _ (hR.alloc _) hv1 (bf.make hR)
 exact AllReady.nil
theorem Q5(D:Nat)(ao:Option Addr)(len cap:Nat)(zs:Nat->Int)(base P bv n:Nat)(acts:Int)(w:World)(Q:Exit->Act->World->Prop)(HQ:dB D ao len cap zs base P bv n acts w Q)(Bs:Nat)(W:World)(hR:bM D ao len cap zs base P bv n acts w W)(hN:bC D W Bs) :
 wpAny Tryz.prog .any ay Q 14 #[true,true,true,false,false,true,false,true,false,true,true,false,false,false,true,false,false,true,false,false,false,false,false] ⟨((.pointer (some ⟨P,0,none⟩)) :: (.pointer (some ⟨D,0,none⟩)) :: (undef) :: (undef) :: (.pointer (some ⟨w.heap.size,0,none⟩)) :: (undef) :: (.pointer (some ⟨P,0,none⟩)) :: (.pointer (some ⟨P,0,none⟩)) :: (.pointer (some ⟨P,1,none⟩)) :: (undef) :: (undef) :: (.pointer (some ⟨D,0,none⟩)) :: (undef) :: (.pointer (some ⟨D,0,none⟩)) :: (undef) :: (.slice (some ⟨Bs,0,none⟩) 9 9) :: (.pointer (some ⟨D,0,none⟩)) :: (undef) :: (undef) :: (undef) :: (.pointer (some ⟨D,0,none⟩)) :: (undef) :: (undef) :: (.pointer (some ⟨D,0,none⟩)) :: (undef) :: (undef) :: (undef) :: (undef) :: (undef) :: (undef) :: (undef) :: (undef) :: (undef) :: (undef) :: (undef) :: (undef) :: []).toArray,[]⟩ W:=by
 have hcell:=hR.cell
 have hlt:=hR.eG.lt
 refine wpAny_ready (rs:=[3,6,21]) (by kernel_rfl) (by simp) ?_
 refine AllReady.cons rfl (fun K hK=>?_) ?_
 ·simp only[ay,Tryz.f63]
  go_simp
  refine hK _ _ ?_
  refine wpAny_take (i:=4) (v:=.int .i64 (IntKind.i64.wrap ((n:Int)+1))) rfl (by kernel_rfl) (by kernel_rfl) (by kernel_rfl) (fun _ _ _ h=>HQ.2 _ _ _ _ _ h) (Or.inl ⟨by rfl,fun w=>by simp only[ay,Tryz.f63];go_simp⟩) ?_
  exact Hg D ao len cap zs base P bv n acts w Q HQ Bs _ hR hN
 refine AllReady.cons rfl (fun K hK=>?_) ?_
 ·simp only[ay,Tryz.f63]
  go_wp2_with (go_at_call 35;refine (aY D ao len cap zs base P bv n acts w W _ hR (by decide) (by decide)).mono ?_;rintro e w' ⟨v1,rfl,hv1,hr,hk⟩)
  exact Hm D ao len cap zs base P bv n acts w Q HQ v1 Bs w' hr hv1 (hN.bG hk)
 refine AllReady.cons rfl (fun K hK=>?_) ?_
 ·simp only[ay,Tryz.f63]
  go_simp
  refine hK _ _ ?_
  exact He D ao len cap zs base P bv n acts w Q HQ Bs _ _ (hR.alloc _) (hN.alloc _) (bf.make hR)
 exact AllReady.nil
theorem Q4(D:Nat)(ao:Option Addr)(len cap:Nat)(zs:Nat->Int)(base P bv n:Nat)(acts:Int)(w:World)(Q:Exit->Act->World->Prop)(HQ:dB D ao len cap zs base P bv n acts w Q)(Bo:Nat)(W:World)(hR:bM D ao len cap zs base P bv n acts w W)(hO:bf D w W Bo) :
 wpAny Tryz.prog .any ay Q 14 #[true,true,true,false,false,true,false,true,false,false,true,false,false,false,true,false,false,true,false,false,false,true,false] ⟨((.pointer (some ⟨P,0,none⟩)) :: (.pointer (some ⟨D,0,none⟩)) :: (undef) :: (undef) :: (.pointer (some ⟨w.heap.size,0,none⟩)) :: (.pointer (some ⟨Bo,0,none⟩)) :: (.pointer (some ⟨P,0,none⟩)) :: (.pointer (some ⟨P,0,none⟩)) :: (.pointer (some ⟨P,1,none⟩)) :: (undef) :: (undef) :: (.pointer (some ⟨D,0,none⟩)) :: (undef) :: (.pointer (some ⟨D,0,none⟩)) :: (undef) :: (undef) :: (.pointer (some ⟨D,0,none⟩)) :: (undef) :: (undef) :: (undef) :: (.pointer (some ⟨D,0,none⟩)) :: (undef) :: (undef) :: (.pointer (some ⟨D,0,none⟩)) :: (undef) :: (undef) :: (undef) :: (undef) :: (undef) :: (undef) :: (undef) :: (undef) :: (undef) :: (undef) :: (undef) :: (undef) :: []).toArray,[]⟩ W:=by
 have hcell:=hR.cell
 have hlt:=hR.eG.lt
 refine wpAny_ready (rs:=[3,6,9]) (by kernel_rfl) (by simp) ?_
 refine AllReady.cons rfl (fun K hK=>?_) ?_
 ·simp only[ay,Tryz.f63]
  go_simp
  refine hK _ _ ?_
  refine wpAny_take (i:=4) (v:=.int .i64 (IntKind.i64.wrap ((n:Int)+1))) rfl (by kernel_rfl) (by kernel_rfl) (by kernel_rfl) (fun _ _ _ h=>HQ.2 _ _ _ _ _ h) (Or.inl ⟨by rfl,fun w=>by simp only[ay,Tryz.f63];go_simp⟩) ?_
  exact Hf D ao len cap zs base P bv n acts w Q HQ Bo _ hR hO
 refine AllReady.cons rfl (fun K hK=>?_) ?_
 ·simp only[ay,Tryz.f63]
  go_wp2_with (go_at_call 35;refine (aY D ao len cap zs base P bv n acts w W _ hR (by decide) (by decide)).mono ?_;rintro e w' ⟨v1,rfl,hv1,hr,hk⟩)
  exact Hl D ao len cap zs base P bv n acts w Q HQ v1 Bo w' hr hv1 (hO.bG hk)
 refine AllReady.cons rfl (fun K hK=>?_) ?_
 ·simp only[ay,Tryz.f63]
  go_simp
  refine hK _ _ ?_
  exact He D ao len cap zs base P bv n acts w Q HQ _ Bo _ (hR.alloc _) (bC.new hR) (hO.alloc _)
 exact AllReady.nil
theorem QZ(D:Nat)(ao:Option Addr)(len cap:Nat)(zs:Nat->Int)(base P bv n:Nat)(acts:Int)(w:World)(Q:Exit->Act->World->Prop)(HQ:dB D ao len cap zs base P bv n acts w Q)(W:World)(hR:bM D ao len cap zs base P bv n acts w W) :
 wpAny Tryz.prog .any ay Q 15 #[true,true,true,false,false,true,false,true,false,false,true,false,false,false,true,false,false,true,false,false,false,false,false] ⟨((.pointer (some ⟨P,0,none⟩)) :: (.pointer (some ⟨D,0,none⟩)) :: (undef) :: (undef) :: (.pointer (some ⟨w.heap.size,0,none⟩)) :: (undef) :: (.pointer (some ⟨P,0,none⟩)) :: (.pointer (some ⟨P,0,none⟩)) :: (.pointer (some ⟨P,1,none⟩)) :: (undef) :: (undef) :: (.pointer (some ⟨D,0,none⟩)) :: (undef) :: (.pointer (some ⟨D,0,none⟩)) :: (undef) :: (undef) :: (.pointer (some ⟨D,0,none⟩)) :: (undef) :: (undef) :: (undef) :: (.pointer (some ⟨D,0,none⟩)) :: (undef) :: (undef) :: (.pointer (some ⟨D,0,none⟩)) :: (undef) :: (undef) :: (undef) :: (undef) :: (undef) :: (undef) :: (undef) :: (undef) :: (undef) :: (undef) :: (undef) :: (undef) :: []).toArray,[]⟩ W:=by
 have hcell:=hR.cell
 have hlt:=hR.eG.lt
 refine wpAny_ready (rs:=[3,6,9,21]) (by kernel_rfl) (by simp) ?_
 refine AllReady.cons rfl (fun K hK=>?_) ?_
 ·simp only[ay,Tryz.f63]
  go_simp
  refine hK _ _ ?_
  refine wpAny_take (i:=4) (v:=.int .i64 (IntKind.i64.wrap ((n:Int)+1))) rfl (by kernel_rfl) (by kernel_rfl) (by kernel_rfl) (fun _ _ _ h=>HQ.2 _ _ _ _ _ h) (Or.inl ⟨by rfl,fun w=>by simp only[ay,Tryz.f63];go_simp⟩) ?_
  exact Q7 D ao len cap zs base P bv n acts w Q HQ _ hR
 refine AllReady.cons rfl (fun K hK=>?_) ?_
 ·simp only[ay,Tryz.f63]
  go_wp2_with (go_at_call 35;refine (aY D ao len cap zs base P bv n acts w W _ hR (by decide) (by decide)).mono ?_;rintro e w' ⟨v1,rfl,hv1,hr,hk⟩)
  exact Q8 D ao len cap zs base P bv n acts w Q HQ v1 w' hr hv1
 refine AllReady.cons rfl (fun K hK=>?_) ?_
 ·simp only[ay,Tryz.f63]
  go_simp
  refine hK _ _ ?_
  exact Q5 D ao len cap zs base P bv n acts w Q HQ _ _ (hR.alloc _) (bC.new hR)
 refine AllReady.cons rfl (fun K hK=>?_) ?_
 ·simp only[ay,Tryz.f63]
  go_simp
  refine hK _ _ ?_
  exact Q4 D ao len cap zs base P bv n acts w Q HQ _ _ (hR.alloc _) (bf.make hR)
 exact AllReady.nil
end Go.Proofs.YtigaphnafnpfnaaGreatDoor
