import Derived.Test.YtigaphnafnpfnaaGreatDoorQNP9
import Derived.Test.YtigaphnafnpfnaaGreatDoorQNPO3
import Derived.Test.YtigaphnafnpfnaaGreatDoorQNLk
import Derived.Test.YtigaphnafnpfnaaGreatDoorQNP15
import Derived.Test.YtigaphnafnpfnaaGreatDoorQVRs
set_option linter.unusedVariables false
set_option linter.unusedSimpArgs false
set_option maxHeartbeats 8000000
set_option maxRecDepth 100000
namespace Go.Proofs.YtigaphnafnpfnaaGreatDoor
open Go.RowKit Go.Maps
attribute [local go_sem ↓] Go.wp_at_zero Go.wp_at_succ
def Em(D:Nat)(ao:Option Addr)(len cap:Nat)(zs:Nat->Int)(w0:World)(P i:Nat)(w:World):Prop :=
 ∃x n acts,n<=i/\x.N<=2+i/\(Yr x/\Prv x n)/\Pk D ao len cap zs w0.heap.size (fun b=>b<w0.heap.size) w0 P x n acts w
theorem ab6{D:Nat}{ao:Option Addr}{len cap:Nat}{zs:Nat->Int}{w0:World}{P i:Nat}{w:World}(h:Em D ao len cap zs w0 P i w)(hi:i<120) :
 CT 15 #[PP P,PP D,.bool true] w fun e w'=>e=.returned (.bool true)/\Em D ao len cap zs w0 P (i+1) w':=by
 obtain⟨x,n,acts,h1,h2,hra,hp⟩:=h;refine (acp D ao len cap zs _ _ w0 P x n acts w hp (UW D ao len cap zs _ P x.bv n (by omega)) (by omega) (by omega)).mono ?_;rintro e w' ⟨rfl,x',n',xk,hn,hp',hs⟩;refine⟨rfl,x',n',xk,by omega,by have:=hs.2.2.1;omega,?_,hp'⟩;rcases hs.1 with e | ⟨nt,S',e⟩
 ·have:=hp'.kn;rw[e]at this;rw[e,this.uniq hp.kn];exact hra
 ·refine⟨hra.1.step (by rw[e,List.length_append];rfl) hs.2.2.1 hs.2.2.2,x.H,nt,S',e,?_⟩;by_cases h:n'=n
  ·rw[h];exact .inl hp.kn
  ·exact .inr (.inl ⟨n,by omega,hp.kn⟩)
theorem XU(D:Nat)(ao:Option Addr)(len cap:Nat)(zs:Nat->Int)(w0 w:World)(hd:Dc D ao len cap zs w0.heap.size w)(k0:aj aJ w0 w) :
 CT 22 #[PP D,.bool true] w fun e w'=>∃P i,e=.returned (PP P)/\i<=120/\Em D ao len cap zs w0 P i w':=by
 obtain⟨HD,HK⟩:=dE hd k0;clear hd k0;go_enter Tryz.func22,Tryz.ntmps22;go_wp2_with fail;refine (Zv w).mono ?_;rintro e w1 ⟨P,x,rfl,hP,ok,kn,hl,hN,k1,hf,hp,hra⟩;have hL:Em D ao len cap zs w0 P 0 w1:=by
  have hd:=ae HD;have k0:=ae HK;have s0:=k0.size;refine⟨x,0,2,Nat.le_refl _,hN,hra,ok,kn,by rw[hl];rfl,hP,hd.Jn k1,fun b hb=>⟨fun hz=>?_,fun h0 a e he=>?_⟩,⟨fun hz=>?_,fun h0 a e he=>?_⟩,fun hz=>?_,fun b hb=>hb,hd.bT,(k0.trans k1).bI⟩
  ·have:=hf b hb;omega
  ·have:=hf b hb;have:=hd.old h0 a e;omega
  ·omega
  ·have:=hd.old h0 a e;omega
  ·have:=hd.bD;omega
 have HL:=au hL;clear hP ok kn hl hN k1 hf hp hra hL HD HK;go_wp2;go_loopg [6] 120 (fun g iv wq=>∃i:Nat,iv=II (i:Int)/\i<=120/\g=120-i/\Em D ao len cap zs w0 P i wq)
 case atStart=>exact⟨0,rfl,Nat.zero_le _,rfl,ae HL⟩
 case round =>
  obtain⟨i,rfl,hi,hgk,hp⟩:=hrel;have hdc:∃at_:Nat,wr.cell? ⟨D,0,none⟩=some (.slice ao len cap)/\wr.cell? ⟨D,1,none⟩=some (II (at_:Int)):=by
   obtain⟨_,_,_,_,_,_,hp⟩:=hp;obtain⟨a,_,hb⟩:=hp.dc.xx;exact⟨a,hb.cell 0,hb.cell 1⟩
  obtain⟨at_,d0,d1⟩:=hdc;have HPl:=au hp;clear hp HL;have HQ:Hid (∀q,Em D ao len cap zs w0 P i (wr.drewN q)):=fun q=>by
   obtain⟨x,n,acts,h1,h2,hra,hp⟩:=ae HPl;exact⟨x,n,acts,h1,h2,hra,hp.bJ ((aj.refl aJ wr).drewN q)⟩
  by_cases hgo:i<120/\at_<len
  ·obtain⟨h60,hat⟩:=hgo;have e1:decide ((i:Int)<120)=true:=by simp;omega
   have e2:decide ((at_:Int)<(len:Int))=true:=by simp;omega
   go_wp2;go_quiet (fail);go_wp2_with fail;refine (ab6 (ae HQ _) h60).mono ?_;rintro e w3 ⟨rfl,hp3⟩;have HP3:=au hp3;clear hp3 d0 d1;go_wp2;go_roundg (120-(i+1))
   case measure=>omega
   case rel=>exact⟨i+1,by push_cast;rfl,by omega,rfl,ae HP3⟩
  ·by_cases h60:i<120
   ·have e1:decide ((i:Int)<120)=true:=by simp;omega
    have hat:¬at_<len:=fun h=>hgo ⟨h60,h⟩
    have e2:decide ((at_:Int)<(len:Int))=false:=by simp;omega
    clear hgo;go_wp2;go_quiet (fail);go_wp2;go_ret;exact⟨P,i,rfl,hi,ae HQ _⟩
   ·have e1:decide ((i:Int)<120)=false:=by simp;omega
    clear hgo;go_wp2;go_quiet (fail);go_wp2;go_ret;exact⟨P,i,rfl,hi,ae HQ _⟩
noncomputable def P8(S:RS)(n:Nat):Bool:=@decide (Kn S n) (Classical.propDecidable _)
theorem Bf{S:RS}{n:Nat}(h:Kn S n):P8 S n=true:=by unfold P8;exact @decide_eq_true _ (Classical.propDecidable _) h
theorem OC{S:RS}{n:Nat}(h:¬Kn S n):P8 S n=false:=by unfold P8;exact @decide_eq_false _ (Classical.propDecidable _) h
def pW(S:RS)(n:Nat)(p:Pv)(W:World):Prop:=∃lo,(Kn S n/\(p.on=n/\p.kn=4/\p.tn=(jf S.t).length/\(jf S.t).length<=1000000)/\Yq S n lo W p.oa p.ka p.ta p.oc p.kc p.tc) \/
 (∃m,(n=m+1/\Kn S m)/\(p.on=m/\p.kn=0/\p.ta=none/\p.tn=0/\p.tc=0)/\ve S m 0 lo W p.oa p.ka p.oc p.kc) \/
 ((n=0/\jI S.sy sG=false)/\(p.on=0/\p.kn=2/\p.ta=none/\p.tn=0/\p.tc=0)/\ve S 0 2 lo W p.oa p.ka p.oc p.kc)
theorem pW.bJ{S:RS}{n:Nat}{p:Pv}{W W':World}(h:pW S n p W)(k:aj aJ W W'):pW S n p W':=by
 obtain⟨lo,h⟩:=h;refine⟨lo,?_⟩;rcases h with⟨h1,h2,h3⟩ | ⟨m,h1,h2,h3⟩ | ⟨h1,h2,h3⟩
 ·exact .inl ⟨h1,h2,h3.aC k (fun b hb=>hb.elim)⟩
 ·exact .inr (.inl ⟨m,h1,h2,h3.aC k (fun b hb=>hb.elim)⟩)
 ·exact .inr (.inr ⟨h1,h2,h3.aC k (fun b hb=>hb.elim)⟩)
theorem xP{x:Kx}{P n:Nat}{acts:Int}{W:World}(ok:jq W x)(hp:WQ x.S n)(hN:x.N<2000)(hn:n<=200)(hP:aA W P #[PP x.bv,II (n:Int),II acts] 37) :
 CT 21 #[PP P] W fun e w'=>∃p:Pv,e=.returned (.tuple #[.agg p.cells,.bool (P8 x.S n)])/\aj aJ W w'/\pW x.S n p w':=by
 rcases hp with kn | ⟨m,rfl,kn⟩ | ⟨rfl,hA,hG⟩
 ·rw[Bf kn];refine (Qy x x.bv P n x.S acts W ok rfl rfl kn (by omega) hn hP).mono ?_;rintro e w' ⟨oa,oc,ka,kc,ta,tc,vs,rfl,h1,h2,h3,h4,k⟩;have hl:=Xj ok;exact⟨⟨oa,n,oc,ka,4,kc,ta,_,tc⟩,rfl,k,W.heap.size,.inl ⟨kn,⟨rfl,rfl,rfl,by omega⟩,vs,h1,h2,h3,h4⟩⟩
 ·rw[OC (fun h=>by have:=h.uniq kn;omega)];refine (Nv x x.bv P m x.S acts W ok rfl rfl kn (by omega) (by push_cast at hP;exact hP)).mono ?_;rintro e w' ⟨oa,oc,rfl,h1,k⟩;exact⟨⟨oa,m,oc,none,0,0,none,0,0⟩,rfl,k,W.heap.size,.inr (.inl ⟨m,⟨rfl,kn⟩,⟨rfl,rfl,rfl,rfl,rfl⟩,h1⟩)⟩
 ·rw[OC (fun h=>by rw[h.sG]at hG;exact absurd hG (by decide))];refine (Jw x x.bv P x.S acts W ok rfl rfl hA hG (by omega) hP).mono ?_;rintro e w' ⟨ka,kc,rfl,h1,k⟩;exact⟨⟨none,0,0,ka,2,kc,none,0,0⟩,rfl,k,W.heap.size,.inr (.inr ⟨⟨rfl,hG⟩,⟨rfl,rfl,rfl,rfl,rfl⟩,h1⟩)⟩
theorem Pg{S:RS}{n:Nat}{p p':Pv}{W:World}(hn:n<=200)(h:pW S n p W)(h':pW S n p' W):CT 24 #[.agg p.cells,.agg p'.cells] W fun e w'=>e=.returned (.bool true)/\aj aJ W w':=by
 obtain⟨lo,h⟩:=h;obtain⟨lo',h'⟩:=h';obtain⟨oa,on,oc,ka,kn,kc,ta,tn,tc⟩:=p;obtain⟨oa',on',oc',ka',kn',kc',ta',tn',tc'⟩:=p';dsimp only at h h';rcases h with⟨h1,⟨rfl,rfl,rfl,hb⟩,h3⟩ | ⟨m,⟨e,h1⟩,⟨rfl,rfl,rfl,rfl,rfl⟩,h3⟩ | ⟨⟨e,h1⟩,⟨rfl,rfl,rfl,rfl,rfl⟩,h3⟩
 ·rcases h' with⟨g1,⟨rfl,rfl,rfl,_⟩,g3⟩ | ⟨m,⟨e,g1⟩,_⟩ | ⟨⟨_,g1⟩,_⟩
  ·exact ace S _ lo lo' W oa ka ta oa' ka' ta' oc kc tc oc' kc' tc' h3 g3 (by omega) _ rfl hb
  ·have:=h1.uniq g1;omega
  ·rw[h1.sG]at g1;exact absurd g1 (by decide)
 ·rcases h' with⟨g1,_⟩ | ⟨m',⟨e',g1⟩,⟨rfl,rfl,rfl,rfl,rfl⟩,g3⟩ | ⟨⟨e',g1⟩,_⟩
  ·have:=h1.uniq g1;omega
  ·obtain rfl:on'=on:=by omega
   exact Y3 S on' 0 lo lo' W oa ka oa' ka' oc kc oc' kc' h3 g3 (by omega) (by omega)
  ·omega
 ·rcases h' with⟨g1,_⟩ | ⟨m',⟨e',g1⟩,_⟩ | ⟨⟨e',g1⟩,⟨rfl,rfl,rfl,rfl,rfl⟩,g3⟩
  ·rw[g1.sG]at h1;exact absurd h1 (by decide)
  ·omega
  ·exact Y3 S 0 2 lo lo' W oa ka oa' ka' oc kc oc' kc' h3 g3 (by omega) (by omega)
structure Gs where
 P:Nat
 x:Kx
 n:Nat
 al:List dL
 F:Nat->RS × List Rc
 k:Nat
def Gs.T(s:Gs):List UInt8:=nV (s.al.map (fun a=>kJ a.eU))
def Gs.L(s:Gs):Nat:=(s.F (s.k+1)).2.length+(uh (s.F s.k).1.t (s.F (s.k+1)).1.told).length
def Gs.J(s:Gs):ByteArray:=fQ (qG (s.al.map dL.line++[⟨#[117,110,100,111]⟩]))
structure V8(s:Gs):Prop where
 run:Iw s.al s.F
 P9:∀a∈s.al,jE a
 hk:s.al.length=s.k+1
 yE:s.al.length<=122
 hn:s.n<=120
 gp:Kn (s.F (s.k+1)).1 s.n
 ab5:WQ (s.F s.k).1 s.n
theorem OL:∀(ls:List (List UInt8)),(∀l∈ls,(10:UInt8)∉l)->(nV ls).count 10=ls.length
 | [],_=>rfl
 | l :: ls,h=>by
   rw[ui,List.count_append,List.count_append,OL ls (fun m hm=>h m (by simp[hm])),List.count_eq_zero_of_not_mem (h l (by simp))];simp;omega
section
variable {s : Gs} {x y : Kx} {w0 W W' : World} {Q : Nat}
theorem V8.YN(h:V8 s):∀l∈s.al.map (fun a=>kJ a.eU),(10:UInt8)∉l/\l.length<=1000:=fun l hl=>by
 obtain⟨a,ha,rfl⟩:=List.mem_map.1 hl;have hw:=qZ (h.P9 a ha).sN;exact⟨xY _ hw.2,hw.1.size⟩
theorem V8.facts(h:V8 s):s.n<=200/\s.al.length<=1000/\s.T.length<=1000000/\s.T.count 10=s.al.length:=by
 have h1:=h.hn;have h2:=h.yE;have h3:=Ah _ (fun l hl=>(h.YN l hl).2);rw[List.length_map]at h3;refine⟨by omega,by omega,?_,?_⟩
 ·show (nV _).length<=_;omega
 ·show (nV _).count 10=_;rw[OL _ (fun l hl=>(h.YN l hl).1),List.length_map]
theorem V8.text(h:V8 s):qG (s.al.map dL.line)=s.T:=by
 unfold qG Gs.T;rw[List.map_map];congr 1;refine List.map_congr_left (fun a ha=>?_);show a.line.data.toList=_;rw[Ai (h.P9 a ha).sN];rfl
structure Un(s:Gs)(x:Kx):Prop where
 S:x.S=(s.F s.k).1
 js:x.V.lg.js=s.al.map dL.line++[⟨#[117,110,100,111]⟩]
 tp:x.V.lg.tp.length=s.L
 n:x.N<=123
theorem VR(h:V8 s)(ok:jq W x)(st:Rn s.al s.F x s.al.length) :
 CT 23 #[PP x.bv] W fun e w'=>e=.returned (II 0)/\KN x W w' (Un s):=by
 have st':=st;rw[h.hk]at st';obtain⟨H,nt,e,hl⟩:=st'.before h.run;have hN:=st.n;have yE:=h.yE;refine (aao ok (by omega) e).mono ?_;rintro e2 w' ⟨rfl,x',ok',k,f,e1,e3,g,eH,OA⟩;refine⟨rfl,x',ok',k,f,e1,e3,g,⟨?_,?_,?_,by omega⟩⟩
 ·unfold Kx.S;rw[eH];exact hl
 ·rw[(g.2.2.1 (by rw[eH,e,List.length_append];simp)).1,st.js,List.take_length]
 ·rw[OA,st'.tp,hl];rfl
structure Rf(w0:World)(s:Gs)(Q bq:Nat)(x y:Kx)(W:World):Prop where
 YU:jq W x
 XN:jq W y
 sep:∀b,KF x b->¬KF y b
 fx:∀b,KF x b->w0.heap.size<=b
 fy:∀b,KF y b->w0.heap.size<=b
 bP:aA W s.P #[PP s.x.bv,II (s.n:Int),II (s.al.length:Int)] 37
 bQ:aA W Q #[PP bq,II (s.n:Int),II (s.al.length:Int)] 37
 ex:x.bv=s.x.bv
 ey:y.bv=bq
 fr:aj (fun b=>w0.heap.size<=b) w0 W
variable {bq : Nat}
theorem Rf.bJ(h:Rf w0 s Q bq x y W)(k:aj aJ W W'):Rf w0 s Q bq x y W' :=
 ⟨h.YU.aB k,h.XN.aB k,h.sep,h.fx,h.fy,k.aF h.bP aU,k.aF h.bQ aU,h.ex,h.ey,h.fr.trans k.bI⟩
theorem Rf.acx{q:Kx->Prop}(h:Rf w0 s Q bq x y W)(hn:KN x W W' q):∃x',q x'/\Rf w0 s Q bq x' y W':=by
 obtain⟨x',ok',k,f,e1,e2,g,hq⟩:=hn;refine⟨x',hq,ok',h.XN.aC k (fun b hb hx=>h.sep b hx hb),fun b hb hy=>?_,fun b hb=>?_,h.fy,k.aF h.bP (h.YU.off h.bP (by decide)),k.aF h.bQ (h.YU.off h.bQ (by decide)),e1.trans h.ex,h.ey,h.fr.trans (k.mono h.fx)⟩
 ·rcases f b hb with hx | hx
  ·exact h.sep b hx hy
  ·have:=h.XN.lt hy;omega
 ·rcases f b hb with hx | hx
  ·exact h.fx b hx
  ·have:=h.fr.size;omega
theorem Rf.acy{q:Kx->Prop}(h:Rf w0 s Q bq x y W)(hn:KN y W W' q):∃y',q y'/\Rf w0 s Q bq x y' W':=by
 obtain⟨y',ok',k,f,e1,e2,g,hq⟩:=hn;refine⟨y',hq,h.YU.aC k h.sep,ok',fun b hb hy=>?_,h.fx,fun b hb=>?_,k.aF h.bP (h.XN.off h.bP (by decide)),k.aF h.bQ (h.XN.off h.bQ (by decide)),h.ex,e1.trans h.ey,h.fr.trans (k.mono h.fy)⟩
 ·rcases f b hy with hx | hx
  ·exact h.sep b hb hx
  ·have:=h.YU.lt hb;omega
 ·rcases f b hb with hx | hx
  ·exact h.fy b hx
  ·have:=h.fr.size;omega
structure One(w0:World)(s:Gs)(W:World):Prop where
 Lu:V8 s
 st:Rn s.al s.F s.x s.al.length
 ok:jq W s.x
 fx:∀b,KF s.x b->w0.heap.size<=b
 bP:aA W s.P #[PP s.x.bv,II (s.n:Int),II (s.al.length:Int)] 37
 fr:aj (fun b=>w0.heap.size<=b) w0 W
theorem One.bJ(h:One w0 s W)(k:aj aJ W W'):One w0 s W' :=
 ⟨h.Lu,h.st,h.ok.aB k,h.fx,k.aF h.bP aU,h.fr.trans k.bI⟩
structure Rdd(w0:World)(s:Gs)(y:Kx)(W:World):Prop where
 one:One w0 s W
 st:Rn s.al s.F y s.al.length
 ok:jq W y
 sep:∀b,KF s.x b->¬KF y b
 fy:∀b,KF y b->w0.heap.size<=b
end
theorem aal{x:Kx}{W:World}(ok:jq W x){t:List UInt8}(h:qG x.V.lg.js=t) :
 CT 28 #[PP x.bv] W fun e w'=>e=.returned (.string (fQ t))/\aj aJ W w':=by
 have:=Jl x.bv x.bm x.bo x.V.lg x.V.lm _ W ok.lG.aP;rw[h]at this;exact this
noncomputable def rst(w0:World)(m:Int)(hT:kP w0)(hm:w0.cell? ⟨0,0,none⟩=some (II m)):Rst Gs Kx w0 where
 P:=Gs.P
 bv s:=s.x.bv
 n:=Gs.n
 A s:=s.al.length
 T:=Gs.T
 bq y:=y.bv
 fin s:=P8 (s.F s.k).1 s.n
 J:=Gs.J
 L:=Gs.L
 S1:=One w0
 S2:=Rdd w0
 S3 s y Q W:=Rdd w0 s y W/\aA W Q #[PP y.bv,II (s.n:Int),II (s.al.length:Int)] 37
 S4 s y Q W:=V8 s/\Rn s.al s.F y s.al.length/\∃x',Un s x'/\Rf w0 s Q y.bv x' y W
 S5 s y Q W:=V8 s/\∃x' y',Un s x'/\Un s y'/\Rf w0 s Q y.bv x' y' W
 PA s p W:=s.n<=200/\pW (s.F (s.k+1)).1 s.n p W
 PB s _ p W:=pW (s.F (s.k+1)).1 s.n p W
 PC s p W:=s.n<=200/\pW (s.F s.k).1 s.n p W
 PD s _ p W:=pW (s.F s.k).1 s.n p W
 Fin W:=Below w0.heap.size w0 W
 k1 h k:=h.bJ k
 k2 h k:=⟨h.one.bJ k,h.st,h.ok.aB k,h.sep,h.fy⟩
 k3 h k:=⟨⟨h.1.one.bJ k,h.1.st,h.1.ok.aB k,h.1.sep,h.1.fy⟩,k.aF h.2 aU⟩
 k5 h k:=by
  obtain⟨h1,x',y',h2,h3,h4⟩:=h;exact⟨h1,x',y',h2,h3,h4.bJ k⟩
 kA h k:=⟨h.1,h.2.bJ k⟩
 kB h k:=h.bJ k
 kC h k:=⟨h.1,h.2.bJ k⟩
 kD h k:=h.bJ k
 b1 h:=h.bP
 f1 h:=h.Lu.facts
 c1:=by
  intro s W h;have hN:=h.st.n;have yE:=h.Lu.yE;have hS:s.x.S=(s.F (s.k+1)).1:=by rw[h.st.S,h.Lu.hk]
  have:=xP h.ok (n:=s.n) (.inl (by rw[hS];exact h.Lu.gp)) (by omega) h.Lu.facts.1 h.bP;rw[hS,Bf h.Lu.gp]at this;exact this.mono (fun e w' ⟨p,h1,h2,h3⟩=>⟨p,h1,h2,h.Lu.facts.1,h3⟩)
 j1:=by
  intro s W h;exact aal h.ok (by rw[h.st.js,List.take_length];exact h.Lu.text)
 r1:=by
  intro s W k h hk;have yE:=h.Lu.yE;refine (U7 (m:=m) (al:=s.al) (F:=s.F) (cut:=([99,108,111,115,101]:List UInt8).take k) (hT.aC h.fr (by have:=hT.lt;omega)) (h.fr.cell hm (by have:=World.block_lt_of_cell? w0 _ hm;show ¬_<=(0:Nat);simp at this;omega)) h.Lu.P9 h.Lu.run (by intro e;have:=h.Lu.hk;rw[e]at this;simp at this) (by omega) (fun hc=>absurd (List.mem_of_mem_take hc) (by decide)) (by rw[List.length_take];simp;omega)).mono ?_;rintro e w' ⟨y,rfl,ok,st,hf,k2⟩;have h2:=h.fr.size;exact⟨y,rfl,k2,h.bJ k2,st,ok,fun b hb hy=>by have:=h.ok.lt hb;have:=hf b hy;omega,fun b hb=>by have:=hf b hb;omega⟩
 s21 h:=h.one
 q2 h k hQ hb:=⟨⟨h.one.bJ k,h.st,h.ok.aB k,h.sep,h.fy⟩,hb⟩
 s31 h:=h.1.one
 b3 h:=h.2
 c3:=by
  intro s y Q W h;have hp:=h.1.one.Lu;have hN:=h.1.st.n;have yE:=hp.yE;have hS:y.S=(s.F (s.k+1)).1:=by rw[h.1.st.S,hp.hk]
  have:=xP h.1.ok (n:=s.n) (.inl (by rw[hS];exact hp.gp)) (by omega) hp.facts.1 h.2;rw[hS,Bf hp.gp]at this;exact this
 e3 h h':=Pg h.1 h.2 h'
 u3:=by
  intro s y Q W h;refine (VR h.1.one.Lu h.1.one.ok h.1.one.st).mono ?_;rintro e w' ⟨rfl,hn⟩;obtain⟨x',hx,hb⟩:=Rf.acx (bq:=y.bv) ⟨h.1.one.ok,h.1.ok,h.1.sep,h.1.one.fx,h.1.fy,h.1.one.bP,h.2,rfl,rfl,h.1.one.fr⟩ hn;exact⟨rfl,h.1.one.Lu,h.1.st,x',hx,hb⟩
 b4:=by
  rintro s y Q W ⟨h1,h2,x',h3,h4⟩;exact h4.bQ
 u4:=by
  rintro s y Q W ⟨h1,h2,x',h3,h4⟩;refine (VR h1 h4.XN h2).mono ?_;rintro e w' ⟨rfl,hn⟩;obtain⟨y',hy,hb⟩:=h4.acy hn;exact⟨rfl,h1,x',y',h3,hy,hb⟩
 b5:=by
  rintro s y Q W ⟨h1,x',y',h3,h4,h5⟩;exact⟨h5.bP,h5.bQ⟩
 c5:=by
  rintro s y Q W ⟨h1,x',y',h3,h4,h5⟩;have:=xP h5.YU (n:=s.n) (P:=s.P) (acts:=s.al.length) (by rw[h3.S];exact h1.ab5) (by have:=h3.n;omega) h1.facts.1 (by rw[h5.ex];exact h5.bP);rw[h3.S]at this;exact this.mono (fun e w' ⟨p,a1,a2,a3⟩=>⟨p,a1,a2,h1.facts.1,a3⟩)
 d5:=by
  rintro s y Q W ⟨h1,x',y',h3,h4,h5⟩;have:=xP h5.XN (n:=s.n) (P:=Q) (acts:=s.al.length) (by rw[h4.S];exact h1.ab5) (by have:=h4.n;omega) h1.facts.1 (by rw[h5.ey];exact h5.bQ);rw[h4.S]at this;exact this
 e5 h h':=Pg h.1 h.2 h'
 r5:=by
  rintro s y Q W ⟨h1,x',y',h3,h4,h5⟩;have yE:=h1.yE;have:=U6 (m:=m) (al:=s.al) (F:=s.F) (hT.aC h5.fr (by have:=hT.lt;omega)) (h5.fr.cell hm (by have:=World.block_lt_of_cell? w0 _ hm;show ¬_<=(0:Nat);simp at this;omega)) h1.P9 h1.run (by omega);rw[show nV (s.al.map (fun a=>kJ a.eU)++[[99,108,111,115]])++[]=s.T++[99,108,111,115,10] by unfold Gs.T;simp[nV,List.flatMap_append]]at this;exact this
 j5:=by
  rintro s y Q W ⟨h1,x',y',h3,h4,h5⟩;have:=aal h5.YU (congrArg qG h3.js);rw[h5.ex]at this;exact this
 i5:=by
  rintro s y Q W ⟨h1,x',y',h3,h4,h5⟩;have:=aal h5.XN (congrArg qG h4.js);rw[h5.ey]at this;exact this
 t5:=by
  rintro s y Q W ⟨h1,x',y',h3,h4,h5⟩;have:=MR h5.YU (by have:=h3.n;omega);rw[h5.ex,h3.tp]at this;exact this.mono (fun e w' ⟨a,c,a1,a2,a3⟩=>⟨a,c,a1,a3⟩)
 v5:=by
  rintro s y Q W ⟨h1,x',y',h3,h4,h5⟩;have:=MR h5.XN (by have:=h4.n;omega);rw[h5.ey,h4.tp]at this;exact this.mono (fun e w' ⟨a,c,a1,a2,a3⟩=>⟨a,c,a1,a3⟩)
 fi:=by
  rintro s y Q W ⟨h1,x',y',h3,h4,h5⟩;exact aj.Ox h5.fr (Nat.le_refl _) (fun k hk=>hk)
theorem G7(ao:Option Addr)(len cap:Nat)(zs:Nat->Int)(KX:Int)(m:Int)(w:World)(hT:kP w)(hm:w.cell? ⟨0,0,none⟩=some (II m))(hcode:Code w ao len zs)(hold:0<len->∀a,ao=some a->a.block<w.heap.size)(hb1:-9223372036854775808<=KX)(hb2:KX<=9223372036854775807) :
 CT 12 #[.slice ao len cap,II KX] w fun e w'=>e=.returned (.bool true)/\Below w.heap.size w w':=by
 refine Ei ao len cap KX w (rst w m hT hm) ?_ (fun W=>JJ KX 6 W (by omega) (by omega) hb1 hb2);have k0:aj aJ w (w.alloc (.cells #[.slice ao len cap,II 0] 28)):=(aj.refl aJ w).alloc _;refine (XU w.heap.size ao len cap zs w _ ⟨⟨0,Nat.zero_le _,aA.new w _ _⟩,hcode.at k0 (fun _ _ _ x=>x),hold,Nat.le_refl _,hT.aB k0,hT.lt⟩ k0).mono ?_;rintro e w1 ⟨P,i,rfl,hi,x,n,acts,hn,hN,⟨⟨al,F,r,st,fa⟩,H,nt,S,eH,hpv⟩,hp⟩;have hl:=st.h;obtain⟨k,hk⟩:∃k,al.length=k+1:=⟨al.length-1,by have:=congrArg List.length eH;rw[List.length_append,List.length_singleton]at this;omega⟩;have st':=st;rw[hk]at st';obtain⟨H',QB,eH',hl'⟩:=st'.before r;have e1:H=H':=(List.append_inj' (eH.symm.trans eH') rfl).1;have hHn:=hp.ok.hlen (by omega);refine⟨⟨P,x,n,al,F,k⟩,rfl,⟨r,fa,hk,by show al.length<=_;omega,by show n<=_;omega,?_,?_⟩,st,hp.ok,fun b hb=>by have:=(hp.kU b hb).1;omega,?_,hp.fr.mono (fun b hb=>by omega)⟩
 ·show Kn (F (k+1)).1 n;rw[<-st'.S];exact hp.kn
 ·show WQ (F k).1 n;rw[<-hl',<-e1];exact hpv
 ·have:=hp.gX;rw[hp.na,st.h]at this;exact this
end Go.Proofs.YtigaphnafnpfnaaGreatDoor
