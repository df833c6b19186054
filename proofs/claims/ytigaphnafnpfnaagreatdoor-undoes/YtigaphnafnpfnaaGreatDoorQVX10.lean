import Derived.Test.YtigaphnafnpfnaaGreatDoorQVX8
import Derived.Test.YtigaphnafnpfnaaGreatDoorQVX9
set_option linter.unusedVariables false
set_option linter.unusedSimpArgs false
set_option maxHeartbeats 8000000
set_option maxRecDepth 100000
namespace Go.Proofs.YtigaphnafnpfnaaGreatDoor
open Go.RowKit
attribute [local go_sem ↓] Go.wp_at_zero Go.wp_at_succ
structure RC where
 S:RS
 left:Int
 filled:Int
 count:Int
 first:Int
def RC.o(c:RC)(i:Nat):iR:=bI (ak c.S.l i)
def RC.fJ(c:RC)(i:Nat):Option Nat:=eP c.S.l (c.o i)
def RC.rX(c:RC)(k:Nat):Int:=if (ak c.S.l k).aH<c.left then (ak c.S.l k).aH else c.left
def RC.step(c:RC)(i k:Nat):RC :=
 if (ak c.S.l k).aG=(ak c.S.l i).aG then { c with S:=c.S.dN k { ak c.S.l k with aX:=wrap64 ((ak c.S.l k).aX+(ak c.S.l k).aH),aH:=0 } }
 else ⟨c.S.gW i k (c.rX k),wrap64 (c.left-c.rX k),wrap64 (c.filled+c.rX k),wrap64 (c.count+1),if wrap64 (c.count+1)=1 then (c.S.t.length:Int)+1 else c.first⟩
inductive uJ (i:Nat):Nat->RC->RC->Prop
 | stop (f:Nat) (c:RC) (h:¬0<c.left\/c.fJ i=none):uJ i f c c
 | go (f k:Nat) (c c':RC) (h:0<c.left) (hk:c.fJ i=some k) (e:uJ i f (c.step i k) c'):uJ i (f+1) c c'
theorem uJ.inv{i q:Nat}{c b:RC}(h:uJ i q c b):(b=c/\(¬0<c.left\/c.fJ i=none))\/∃a k,q=a+1/\0<c.left/\c.fJ i=some k/\uJ i a (c.step i k) b:=by
 cases h with
 | stop _ _ hs=>exact .inl ⟨rfl,hs⟩
 | go a k _ _ hl hk e=>exact .inr ⟨a,k,rfl,hl,hk,e⟩
theorem dF.dr{w:World}{base a:Nat}{S:RS}{m:SM}(h:dF w base a S m):dF w.drew base a S m:=h.ax (aj.refl aA w).drew
theorem PW{l:List Ord}{o:iR}{k:Nat}(h:eP l o=some k):k<l.length:=sS _ _ _ _ h
theorem mM(l:List Ord)(o:iR):∀i b,gX l o i=some b->fF o (ak l b)=true
 | 0,b,h=>by simp[gX]at h
 | i+1,b,h=>by
   unfold gX at h;split at h
   ·rename_i a;split at h
    ·simp at h;subst h;exact a
    ·rename_i b' c;split at h <;> simp at h <;> subst h
     ·exact a
     ·exact mM l o i b' c
   ·exact mM l o i b h
theorem Un{c:RC}{i k:Nat}(h:c.fJ i=some k):i≠k:=by
 rintro rfl;have:=mM _ _ _ _ h;simp[fF,RC.o,bI]at this
theorem Jd(c:RC)(i k:Nat):(c.step i k).S.l.length=c.S.l.length:=by
 unfold RC.step;split
 ·simp[RS.dN]
 ·simp[RS.gW,RS.gI,RS.dN]
theorem FP(c:RC)(i k:Nat):(c.step i k).S.t.length<=c.S.t.length+1/\(c.step i k).S.told.length<=c.S.told.length+1:=by
 unfold RC.step;split
 ·simp[RS.dN]
 ·simp[RS.gW]
theorem UB(S:RS){i k:Nat}(n:Int)(a:i<S.l.length)(b:i≠k):bI (ak (S.gI i k n).l i)=bI (ak S.l i):=by
 simp only[RS.gI,RS.dN];rw[dB (by simp only[List.length_set];exact a)]
 rfl
theorem Yi(c:RC){i k:Nat}(b:i<c.S.l.length)(a:i≠k):(c.step i k).o i=c.o i:=by
 unfold RC.step RC.o;split
 ·simp only[RS.dN];rw[jZ a.symm]
 ·exact UB c.S _ b a
structure Cm(base sb:Nat)(m:SM)(w:World)(c:RC)(m':SM)(wr:World):Prop where
 st:dF wr base sb c.S m'
 sf:∀b,SF sb m' b->SF sb m b\/w.heap.size<=b
 r:au wr (w.heap.size+1) #[II c.filled,II 0,II 0,II c.first,II c.count] 87
 z:au wr w.heap.size bC 87
 jW:aj (SF sb m) w wr
theorem Cm.next{base e:Nat}{m m':SM}{w wr w2:World}{c:RC}{f:RS}(h:Cm base e m w c m' wr)(i:iZ base e f m' wr w2):∃d,Cm base e m w { c with S:=f } d w2:=by
 obtain⟨d,p,q,k⟩:=i;refine⟨d,⟨p,fun b g=>?_,k.ay h.r (h.st.ne h.r (by decide)),k.ay h.z (h.st.ne h.z (by decide)),h.jW.from (k.mono h.sf)⟩⟩;rcases q b g with a | a
 ·exact h.sf b a
 ·exact .inr (Nat.le_trans h.jW.size a)
theorem Cm.put{base g:Nat}{m m':SM}{w wr w2:World}{c d:RC}(h:Cm base g m w c m' wr)(j:d.S=c.S)(k:aj (fun b=>b=w.heap.size+1) wr w2)(l:au w2 (w.heap.size+1) #[II d.filled,II 0,II 0,II d.first,II d.count] 87):Cm base g m w d m' w2:=by
 have nb:∀b,SF g m' b->¬b=w.heap.size+1:=fun b a e=>by subst e;exact h.st.ne h.r (by decide) a
 have f:∀{e size n:Nat} {v:Value} {i:List Value},wr.ownsRow base e size v n i->(∀b,v.ownBlock=some b->SF g m' b)->w2.ownsRow base e size v n i:=fun r hs=>aB r k (fun b a=>nb b (hs b a))
 refine⟨?_,h.sf,l,k.ay h.z (by omega),h.jW.from (k.mono (fun b a=>.inr (by omega)))⟩;rw[j];exact⟨h.st.ge,k.ay h.st.ay (nb _ (.inl rfl)),f h.st.mZ (fun b a=>.inr (.inl a)),f h.st.dV (fun b a=>jL a),f h.st.dJ (fun b a=>iQ a),f h.st.lZ (fun b a=>xA a)⟩
theorem Cm.ext{base a:Nat}{m m':SM}{w wr w2:World}{c:RC}(h:Cm base a m w c m' wr)(k:aj aA wr w2):Cm base a m w c m' w2 :=
 ⟨h.st.ax k,h.sf,k.ay h.r idd,k.ay h.z idd,h.jW.trans k.aP⟩
theorem Cm.fin{base f:Nat}{m m':SM}{w wr w2:World}{c:RC}(h:Cm base f m w c m' wr)(k:aj (fun b=>b=w.heap.size\/b=w.heap.size+1) wr w2):iZ base f c.S m w w2:=by
 have nb:∀b,SF f m' b->¬(b=w.heap.size\/b=w.heap.size+1):=fun b a e=>by
  rcases e with e | e
  ·subst e;exact h.st.ne h.z (by decide) a
  ·subst e;exact h.st.ne h.r (by decide) a
 have d:∀{e size n:Nat} {v:Value} {g:List Value},wr.ownsRow base e size v n g->(∀b,v.ownBlock=some b->SF f m' b)->w2.ownsRow base e size v n g:=fun r hs=>aB r k (fun b a=>nb b (hs b a))
 exact⟨m',⟨h.st.ge,k.ay h.st.ay (nb _ (.inl rfl)),d h.st.mZ (fun b a=>.inr (.inl a)),d h.st.dV (fun b a=>jL a),d h.st.dJ (fun b a=>iQ a),d h.st.lZ (fun b a=>xA a)⟩,h.sf,h.jW.from (k.mono (fun b a=>.inr (by omega)))⟩
theorem Fq(tmps:Array Value)(H:Nat)(w:World)(a b c d e:Int)(f:tmps.getD 6 undef=PP H)(k:au w H #[II a,II b,II c,II d,II e] 87) :
 (results Tryz.f168 tmps).run Tryz.prog w=.ok (dm a b c d e) w:=by
 obtain⟨c0,c1,g,i,j⟩:=k.c5;simp only[Array.getD_eq_getD_getElem?]at f;simp[results,Tryz.results168,go_sem,f,c0,c1,g,i,j,dm]
def qV(i:Nat)(c:RC):RS:=if c.left=0 then c.S else if dS (ak c.S.l i).kind=true then c.S.kC i c.left else c.S.dN i { ak c.S.l i with aX:=wrap64 ((ak c.S.l i).aX+c.left) }
def IK(i:Nat)(c:RC):Value:=if c.left=0 then dm c.filled 0 0 c.first c.count else if dS (ak c.S.l i).kind=true then dm c.filled c.left 0 c.first c.count else dm c.filled 0 c.left c.first c.count
theorem dF.SG{d:World}{base o N:Nat}{S':RS}{m':SM}(h:dF d base o S' m')(u:S'.l.length=N)(h0:0<N):∃g c,d.cell? ⟨o,1,none⟩=some (.slice (some ⟨g,0,none⟩) N c)/\m'.lv=.slice (some ⟨g,0,none⟩) S'.l.length c/\o≠g/\g<d.heap.size/\(∃cs,au d g cs 212)/\(∀k,k<N->∀j m,(uN (ak S'.l k))[j]?=some m->d.cell? ⟨g,k * 13+j,none⟩=some m)/\∀j,d.frozen? ⟨g,j,none⟩=false:=by
 obtain⟨a,c,f⟩:=aJ h.dV;obtain⟨g,rfl,_,_,t⟩:=h.wW f (i:=0) (by omega);have r:=h.dV;rw[f]at r;obtain⟨cs,n⟩:=aF r (b:=g) rfl;refine⟨g,c,by rw[<-u,<-f];exact h.ay.cell 1,f,fun e=>au.ne h.ay n (by decide) e,n.lt,⟨cs,n⟩,fun k w j m v=>?_,t⟩;obtain⟨q,p,_,s,_⟩:=h.wW f (i:=k) (by omega);obtain rfl:g=q:=by simpa using p
 exact s j m v
theorem Dz(base u i f:Nat)(S:RS)(m:SM)(left:Int)(d:RC)(w:World)(h:dF w base u S m)(hlen:S.l.length<=1000)(hi:i<S.l.length)(hE:uJ i f ⟨S,left,0,0,0⟩ d)(ht:S.t.length+f<1000000000)(ho:S.told.length+f<1000000000) :
 CT 168 #[PP u,II (i:Int),II left] w fun e w'=>e=.returned (IK i d)/\iZ base u (qV i d) m w w':=by
 obtain⟨N,Q⟩:=dQ S.l.length;have y:i<N:=by omega
 have HB:Hid (∀W S' m',dF W base u S' m'->S'.l.length=N->CT 199 #[PP u,.agg #[II (ak S'.l i).id,II (ak S'.l i).aG,.string (ak S'.l i).sym,II (ak S'.l i).side,II (ak S'.l i).kind,II (ak S'.l i).af,II (ak S'.l i).az]] W fun e w'=>e=.returned (II (oi (eP S'.l (bI (ak S'.l i)))))/\aj aA W w') :=
  fun W S' m' h' hl=>xX base u S' m' (bI (ak S'.l i)) W h' (by omega)
 have HT:Hid (∀W S' m' k n,dF W base u S' m'->S'.l.length=N->k<N->i≠k->S'.t.length<1000000000->S'.told.length<1000000000->CT 201 #[PP u,II (i:Int),II (k:Int),II n] W fun e w'=>e=.returned (.tuple #[])/\iZ base u (S'.gW i k n) m' W w') :=
  fun W S' m' k n h' hl hk hik K h2=>I4 base u i k S' m' n W h' (by omega) (by omega) (by omega) hik K h2
 have HST:Hid (∀W S' m' n,dF W base u S' m'->S'.l.length=N->CT 203 #[PP u,II (i:Int),II n] W fun e w'=>e=.returned (.tuple #[])/\iZ base u (S'.kC i n) m' W w') :=
  fun W S' m' n h' hl=>Ll base u i S' m' n W h' (by omega) (by omega)
 obtain⟨w1,hw1⟩:=gy ((w.alloc (.cells bC 87)).alloc (.cells bC 87));have k1:aj aA w w1:=by rw[hw1];exact ((aj.refl aA w).alloc _).alloc _
 have cm1:Cm base u m w ⟨S,left,0,0,0⟩ m w1:=⟨h.ax k1,fun b hb=>.inl hb,by rw[hw1];exact au.qm w _ _ _,by rw[hw1];exact (au.new w _ _).alloc _,k1.aP⟩;obtain⟨g,c00,v1,_,_,lg,_,v,_⟩:=h.SG Q (by omega);have c0:CC w g (i * 13) (II (ak S.l i).id):=v i y 0 _ rfl;have c1:CC w g (i * 13+1) (II (ak S.l i).aG):=v i y 1 _ rfl;have c2:CC w g (i * 13+2) (.string (ak S.l i).sym):=v i y 2 _ rfl;have c3:CC w g (i * 13+3) (II (ak S.l i).side):=v i y 3 _ rfl;have c4:CC w g (i * 13+4) (II (ak S.l i).kind):=v i y 4 _ rfl;have c5:CC w g (i * 13+5) (II (ak S.l i).af):=v i y 5 _ rfl;have c6:CC w g (i * 13+6) (II (ak S.l i).az):=v i y 6 _ rfl;have MP:=h.ay.lt;have ES:u<w.heap.size+1:=by omega
 have lg1:g<w.heap.size+1:=by omega
 obtain⟨TU,F,HE,HW1,E⟩:=mi (ae HB w1 S m cm1.st Q) cm1 hE hw1 Q;have hlN:N<=1000:=by omega
 simp only[bC]at HW1;clear h v cm1 hE hw1 Q k1 hi hlen;go_enter Tryz.func168,Tryz.ntmps168;go_wp2_with fail;rw[<-ae HW1];refine (ae TU).mono ?_;rintro e w2 ⟨rfl,k2⟩;have YV:=ai ((ae F).ext k2);clear k2 TU F HW1 v1 c0 c1 c2 c3 c4 c5 c6;go_wp2;go_loopg [2,8] f (fun q lv kv wr=>∃c H,lv=II c.left/\kv=II (oi (c.fJ i))/\Cm base u m w c H wr/\uJ i q c d/\c.S.l.length=N/\c.S.t.length+q<1000000000/\c.S.told.length+q<1000000000)
 case atStart=>exact⟨⟨S,left,0,0,0⟩,m,rfl,rfl,ae YV,ae HE,ae E,ht,ho⟩
 case round =>
  clear YV HE E ht ho lg lg1;obtain⟨c,H,rfl,rfl,D,he,Q,ht,ho⟩:=hrel;obtain⟨g,cc,v1,hlv,hsg,lg,Ae,v,X⟩:=D.st.SG Q (by omega);obtain⟨r0,r1,r2,r3,r4⟩:=D.r.c5;obtain⟨z0,z1,z2,z3,z4⟩:=D.z.c5;have fr0:=D.r.frozen 0;have fr1:=D.r.frozen 1;have fr2:=D.r.frozen 2;have fr3:=D.r.frozen 3;have fr4:=D.r.frozen 4;have fz0:=D.z.frozen 0;have Qw:=D.z.frozen 1;have Qx:=D.z.frozen 2;have fz3:=D.z.frozen 3;have Qy:=D.z.frozen 4;have gz:g≠w.heap.size:=by obtain⟨cs,hcs⟩:=Ae;exact au.ne hcs D.z (by decide)
  have gr:g≠w.heap.size+1:=by obtain⟨cs,hcs⟩:=Ae;exact au.ne hcs D.r (by decide)
  have sz:u≠w.heap.size:=by omega
  have sr:u≠w.heap.size+1:=by omega
  have gz':=gz.symm;have gr':=gr.symm;have sz':=sz.symm;have Yg:=sr.symm;have hgs:=hsg.symm;obtain⟨F,E,TG,HCC,HF⟩:=mi D Q hlv v X;clear D Q hlv Ae;rcases he.inv with⟨hcc,hs⟩ | ⟨q,k,rfl,hl,hk,he2⟩
  ·obtain rfl:=hcc;have x4:CC wr g (i * 13+4) (II (ak d.S.l i).kind):=v i y 4 _ rfl;have x10:CC wr g (i * 13+10) (II (ak d.S.l i).aX):=v i y 10 _ rfl;have f10:=X (i * 13+10);clear v X;have hd:(decide (0<d.left)=false)\/(decide (0<d.left)=true/\d.fJ i=none):=by
    by_cases h0:0<d.left
    ·right;exact⟨by simpa using h0,hs.elim (fun h=>absurd h0 h) idd⟩
    ·left;simpa using h0
   clear hs;by_cases I:d.left=0
   ·have e0:(d.left == 0)=true:=by simp[I]
    have d0:decide (0<d.left)=false:=by simp[I]
    have L:Hid (IK i d=dm d.filled 0 0 d.first d.count/\qV i d=d.S):=⟨by unfold IK;rw[if_pos I],by unfold qV;rw[if_pos I]⟩;clear I hd;go_wp2;refine bodyPost_ret (Fq _ w.heap.size _ d.filled 0 0 d.first d.count rfl ?_) rfl ⟨by rw[(ae L).1],?_⟩
    ·exact (((((ae F).z.set 0 _).set 1 _).set 2 _).set 3 _).set 4 _
    ·rw[(ae L).2];exact (ae F).fin ((((((aj.refl (fun x=>x=w.heap.size\/x=w.heap.size+1) wr).setCell (p:=⟨w.heap.size,0,none⟩) (.inl (.inl rfl)) _).setCell (p:=⟨w.heap.size,1,none⟩) (.inl (.inl rfl)) _).setCell (p:=⟨w.heap.size,2,none⟩) (.inl (.inl rfl)) _).setCell (p:=⟨w.heap.size,3,none⟩) (.inl (.inl rfl)) _).setCell (p:=⟨w.heap.size,4,none⟩) (.inl (.inl rfl)) _)
   ·have e0:(d.left == 0)=false:=by simp[I]
    cases hr:dS (ak d.S.l i).kind
    ·have L:Hid (IK i d=dm d.filled 0 d.left d.first d.count/\qV i d=d.S.dN i { ak d.S.l i with aX:=wrap64 ((ak d.S.l i).aX+d.left) }):=⟨by unfold IK;rw[if_neg I,if_neg (by rw[hr];simp)],by unfold qV;rw[if_neg I,if_neg (by rw[hr];simp)]⟩;have hst:=(ae F).st.iW (ae TG) (by rw[ae E];exact y) (j:=10) (by omega) (II (wrap64 ((ak d.S.l i).aX+d.left))) { ak d.S.l i with aX:=wrap64 ((ak d.S.l i).aX+d.left) } rfl;obtain⟨A,s⟩:=(ae F).next (w2:=wr.setCell ⟨g,i * 13+10,none⟩ (II (wrap64 ((ak d.S.l i).aX+d.left)))) ⟨H,hst.1,fun b hb=>.inl hb,hst.2⟩;have C:=ai s;have HRR:Hid (∀W,CT 202 #[II (ak d.S.l i).kind] W fun e w'=>e=.returned (.bool false)/\w'=W):=fun W=>by rw[<-hr];exact vW _ W
     clear I hr hst s;rcases hd with d0 | ⟨d0,hb⟩
     ·go_wp2_with (go_at_call 202;refine (ae HRR _).mono ?_;rintro e w' ⟨rfl,T⟩;rw[T];clear T w');go_region;go_wp2;refine bodyPost_ret (Fq _ w.heap.size _ d.filled 0 d.left d.first d.count rfl ?_) rfl ⟨by rw[(ae L).1],?_⟩
      ·exact ((((((((ae C).z.other (a:=⟨w.heap.size+1,2,none⟩) (by simp) (II d.left)).set 0 (II d.filled)).set 1 (II 0)).set 2 (II d.left)).set 3 (II d.first)).set 4 (II d.count)).drew)
      ·rw[(ae L).2];exact (ae C).fin (((((((aj.refl (fun x=>x=w.heap.size\/x=w.heap.size+1) _).setCell (p:=⟨w.heap.size+1,2,none⟩) (.inl (.inr rfl)) _).setCell (p:=⟨w.heap.size,0,none⟩) (.inl (.inl rfl)) _).setCell (p:=⟨w.heap.size,1,none⟩) (.inl (.inl rfl)) _).setCell (p:=⟨w.heap.size,2,none⟩) (.inl (.inl rfl)) _).setCell (p:=⟨w.heap.size,3,none⟩) (.inl (.inl rfl)) _).setCell (p:=⟨w.heap.size,4,none⟩) (.inl (.inl rfl)) _).drew
     ·have hoi:oi (d.fJ i) = -1:=by rw[hb];rfl
      clear hb;go_wp2_with (go_at_call 202;refine (ae HRR _).mono ?_;rintro e w' ⟨rfl,T⟩;rw[T];clear T w');go_region;go_wp2;refine bodyPost_ret (Fq _ w.heap.size _ d.filled 0 d.left d.first d.count rfl ?_) rfl ⟨by rw[(ae L).1],?_⟩
      ·exact ((((((((ae C).z.other (a:=⟨w.heap.size+1,2,none⟩) (by simp) (II d.left)).set 0 (II d.filled)).set 1 (II 0)).set 2 (II d.left)).set 3 (II d.first)).set 4 (II d.count)).drew)
      ·rw[(ae L).2];exact (ae C).fin (((((((aj.refl (fun x=>x=w.heap.size\/x=w.heap.size+1) _).setCell (p:=⟨w.heap.size+1,2,none⟩) (.inl (.inr rfl)) _).setCell (p:=⟨w.heap.size,0,none⟩) (.inl (.inl rfl)) _).setCell (p:=⟨w.heap.size,1,none⟩) (.inl (.inl rfl)) _).setCell (p:=⟨w.heap.size,2,none⟩) (.inl (.inl rfl)) _).setCell (p:=⟨w.heap.size,3,none⟩) (.inl (.inl rfl)) _).setCell (p:=⟨w.heap.size,4,none⟩) (.inl (.inl rfl)) _).drew
    ·have L:Hid (IK i d=dm d.filled d.left 0 d.first d.count/\qV i d=d.S.kC i d.left):=⟨by unfold IK;rw[if_neg I,if_pos hr],by unfold qV;rw[if_neg I,if_pos hr]⟩;have HRR:Hid (∀W,CT 202 #[II (ak d.S.l i).kind] W fun e w'=>e=.returned (.bool true)/\w'=W):=fun W=>by rw[<-hr];exact vW _ W
     have YS:=ai (ae HST wr d.S H d.left (ae F).st (ae E));have hoi:(decide (0<d.left)=false)\/(decide (0<d.left)=true/\oi (d.fJ i) = -1):=hd.imp idd (fun h=>⟨h.1,by rw[h.2];rfl⟩);clear I hr hd;rcases hoi with d0 | ⟨d0,hoi⟩
     all_goals
      go_wp2_with (first
       | (go_at_call 202;refine (ae HRR _).mono ?_;rintro e w' ⟨rfl,T⟩;rw[T];clear T w')
       | (go_at_call 203;refine (ae YS).mono ?_;rintro e J ⟨rfl,R⟩;obtain⟨A,s⟩:=(ae F).next R;have y0:=s.r.cell 0;have y1:=s.r.cell 1;have y2:=s.r.cell 2;have y3:=s.r.cell 3;have y4:=s.r.cell 4;have q0:=s.z.cell 0;have q1:=s.z.cell 1;have q2:=s.z.cell 2;have q3:=s.z.cell 3;have q4:=s.z.cell 4;have g1:=s.r.frozen 1;have p0:=s.z.frozen 0;have p1:=s.z.frozen 1;have p2:=s.z.frozen 2;have p3:=s.z.frozen 3;have p4:=s.z.frozen 4;simp[bC]at y0 y1 y2 y3 y4 q0 q1 q2 q3 q4;have C:=ai s;clear s R))
      refine bodyPost_ret (Fq _ w.heap.size _ d.filled d.left 0 d.first d.count rfl ?_) rfl ⟨by rw[(ae L).1],?_⟩
      ·exact (((((((ae C).z.other (a:=⟨w.heap.size+1,1,none⟩) (by simp) (II d.left)).set 0 (II d.filled)).set 1 (II d.left)).set 2 (II 0)).set 3 (II d.first)).set 4 (II d.count))
      ·rw[(ae L).2];exact (ae C).fin (((((((aj.refl (fun x=>x=w.heap.size\/x=w.heap.size+1) _).setCell (p:=⟨w.heap.size+1,1,none⟩) (.inl (.inr rfl)) _).setCell (p:=⟨w.heap.size,0,none⟩) (.inl (.inl rfl)) _).setCell (p:=⟨w.heap.size,1,none⟩) (.inl (.inl rfl)) _).setCell (p:=⟨w.heap.size,2,none⟩) (.inl (.inl rfl)) _).setCell (p:=⟨w.heap.size,3,none⟩) (.inl (.inl rfl)) _).setCell (p:=⟨w.heap.size,4,none⟩) (.inl (.inl rfl)) _)
  ·have hkN:k<N:=by rw[<-ae E];exact PW hk
   have hik:=Un hk;obtain⟨HEN,Zi,Z⟩:=fK he2 (Jd c i k) (FP c i k);have HSO:=ai (Yi c (k:=k) (by rw[ae E];exact y) hik);have d0:decide (0<c.left)=true:=by simpa using hl
   have hoi:oi (c.fJ i)=(k:Int):=by rw[hk];rfl
   have xi1:CC wr g (i * 13+1) (II (ak c.S.l i).aG):=v i y 1 _ rfl;have xk1:CC wr g (k * 13+1) (II (ak c.S.l k).aG):=v k hkN 1 _ rfl;have xk8:CC wr g (k * 13+8) (II (ak c.S.l k).aH):=v k hkN 8 _ rfl;by_cases ho1:(ak c.S.l k).aG=(ak c.S.l i).aG
   ·have e1:((ak c.S.l k).aG == (ak c.S.l i).aG)=true:=by simp[ho1]
    have V:Hid (c.step i k={ c with S:=c.S.dN k { ak c.S.l k with aX:=wrap64 ((ak c.S.l k).aX+(ak c.S.l k).aH),aH:=0 } }):=by show _=_;unfold RC.step;rw[if_pos ho1]
    have acE:CC wr g (k * 13+10) (II (ak c.S.l k).aX):=v k hkN 10 _ rfl;have x0:CC wr g (i * 13) (II (ak c.S.l i).id):=v i y 0 _ rfl;have x2:CC wr g (i * 13+2) (.string (ak c.S.l i).sym):=v i y 2 _ rfl;have x3:CC wr g (i * 13+3) (II (ak c.S.l i).side):=v i y 3 _ rfl;have x4:CC wr g (i * 13+4) (II (ak c.S.l i).kind):=v i y 4 _ rfl;have x5:CC wr g (i * 13+5) (II (ak c.S.l i).af):=v i y 5 _ rfl;have x6:CC wr g (i * 13+6) (II (ak c.S.l i).az):=v i y 6 _ rfl;have f10:=X (k * 13+10);have f8:=X (k * 13+8);have n1:¬k * 13+8=k * 13+10:=by omega
    have HS2:Hid (∀W,Cm base u m w c H W->Cm base u m w (c.step i k) H ((W.setCell ⟨g,k * 13+10,none⟩ (II (wrap64 ((ak c.S.l k).aX+(ak c.S.l k).aH)))).setCell ⟨g,k * 13+8,none⟩ (II 0))):=by
     intro W B;have hk':k<c.S.l.length:=by rw[ae E];exact hkN
     obtain⟨p1,q1⟩:=B.st.iW (ae TG) hk' (j:=10) (by omega) (II (wrap64 ((ak c.S.l k).aX+(ak c.S.l k).aH))) { ak c.S.l k with aX:=wrap64 ((ak c.S.l k).aX+(ak c.S.l k).aH) } rfl;obtain⟨p2,q2⟩:=p1.iW (i:=k) (by simp only[List.length_set];exact ae TG) (by simp only[List.length_set];exact hk') (j:=8) (by omega) (II 0) { ak c.S.l k with aX:=wrap64 ((ak c.S.l k).aX+(ak c.S.l k).aH),aH:=0 } (by simp only;rw[dB hk'];rfl);have kk:=q1.trans q2;rw[ae V];simp only[List.set_set]at p2;exact⟨p2,B.sf,kk.ay B.r (B.st.ne B.r (by decide)),kk.ay B.z (B.st.ne B.z (by decide)),B.jW.from (kk.mono B.sf)⟩
    have HB2:Hid (∀W,dF W base u (c.step i k).S H->CT 199 #[PP u,.agg #[II (ak c.S.l i).id,II (ak c.S.l i).aG,.string (ak c.S.l i).sym,II (ak c.S.l i).side,II (ak c.S.l i).kind,II (ak c.S.l i).af,II (ak c.S.l i).az]] W fun e w'=>e=.returned (II (oi ((c.step i k).fJ i)))/\aj aA W w'):=fun W hW=>by
     have:=ae HB W _ H hW (by rw[ae Zi];exact ae E);have P:ak (c.step i k).S.l i=ak c.S.l i:=by rw[ae V];simp only[RS.dN];exact jZ hik.symm
     unfold RC.fJ RC.o;rw[P]at this ⊢;exact this
    clear v X ho1 hk hl he2;go_wp2;go_quiet (fail);go_wp2;go_region;go_wp2_with fail;refine (ae HB2 _ ?st).mono ?_
    case st=>exact (ae HS2 _ ((ae F).ext ((aj.refl _ _).drewN _))).st
    rintro e J ⟨rfl,k3⟩;have C:Hid (Cm base u m w (c.step i k) H J):=(ae HS2 _ ((ae F).ext ((aj.refl _ _).drewN _))).ext k3;clear k3;go_wp2;go_roundg q
    case measure=>omega
    case rel=>exact⟨c.step i k,H,by rw[ae V],rfl,ae C,ae HEN,by rw[ae Zi];exact ae E,by have:=ae Z;omega,by have:=ae Z;omega⟩
   ·have e1:((ak c.S.l k).aG == (ak c.S.l i).aG)=false:=by simp[ho1]
    have V:Hid (c.step i k=⟨c.S.gW i k (c.rX k),wrap64 (c.left-c.rX k),wrap64 (c.filled+c.rX k),wrap64 (c.count+1),if wrap64 (c.count+1)=1 then (c.S.t.length:Int)+1 else c.first⟩):=by show _=_;unfold RC.step;rw[if_neg ho1]
    have HLT:Hid (∀n A W,n=c.rX k->Cm base u m w { c with S:=c.S.gW i k n } A W->∃G c3 a3 t3,W.cell? ⟨u,1,none⟩=some (.slice (some ⟨G,0,none⟩) N c3)/\W.cell? ⟨u,2,none⟩=some (.slice a3 (c.S.t.length+1) t3)/\G≠w.heap.size+1/\G<W.heap.size/\W.cell? ⟨G,i * 13,none⟩=some (II (ak c.S.l i).id)/\W.cell? ⟨G,i * 13+1,none⟩=some (II (ak c.S.l i).aG)/\W.cell? ⟨G,i * 13+2,none⟩=some (.string (ak c.S.l i).sym)/\W.cell? ⟨G,i * 13+3,none⟩=some (II (ak c.S.l i).side)/\W.cell? ⟨G,i * 13+4,none⟩=some (II (ak c.S.l i).kind)/\W.cell? ⟨G,i * 13+5,none⟩=some (II (ak c.S.l i).af)/\W.cell? ⟨G,i * 13+6,none⟩=some (II (ak c.S.l i).az)):=by
     intro n A W hn B;obtain⟨G,c3,u1,_,_,lg3,⟨cs,hcs⟩,hc3,_⟩:=B.st.SG (N:=N) (by simp only[RS.gW,RS.gI,RS.dN,List.length_set];exact ae E) (by omega);obtain⟨a3,t3,hv3⟩:=aJ B.st.dJ;have e3:ak (c.S.gW i k n).l i={ ak c.S.l i with filled:=wrap64 ((ak c.S.l i).filled+n) }:=by
      simp only[RS.gW,RS.gI,RS.dN];rw[dB (by simp only[List.length_set];rw[ae E];exact y)]
     have O:=hc3 i y;simp only at O;rw[e3]at O;have u2:=B.st.ay.cell 2;simp only[RS.gW,List.length_append,List.length_cons,List.length_nil]at hv3;refine⟨G,c3,a3,t3,u1,?_,au.ne hcs B.r (by decide),lg3,O 0 _ rfl,O 1 _ rfl,O 2 _ rfl,O 3 _ rfl,O 4 _ rfl,O 5 _ rfl,O 6 _ rfl⟩;rw[u2,<-hv3];rfl
    have HB2:Hid (∀W m4,dF W base u (c.step i k).S m4->CT 199 #[PP u,.agg #[II (ak c.S.l i).id,II (ak c.S.l i).aG,.string (ak c.S.l i).sym,II (ak c.S.l i).side,II (ak c.S.l i).kind,II (ak c.S.l i).af,II (ak c.S.l i).az]] W fun e w'=>e=.returned (II (oi ((c.step i k).fJ i)))/\aj aA W w'):=fun W m4 hW=>by
     have:=ae HB W _ m4 hW (by rw[ae Zi];exact ae E);have P:=ae HSO;unfold RC.o at P;have e3:(ak (c.step i k).S.l i).id=(ak c.S.l i).id/\(ak (c.step i k).S.l i).aG=(ak c.S.l i).aG/\(ak (c.step i k).S.l i).sym=(ak c.S.l i).sym/\(ak (c.step i k).S.l i).side=(ak c.S.l i).side/\(ak (c.step i k).S.l i).kind=(ak c.S.l i).kind/\(ak (c.step i k).S.l i).af=(ak c.S.l i).af/\(ak (c.step i k).S.l i).az=(ak c.S.l i).az:=by
      simpa [bI] using P
     obtain⟨a0,a1,a2,a3,a4,a5,a6⟩:=e3;rw[a0,a1,a2,a3,a4,a5,a6]at this;exact this
    have HCT:Hid (∀W,Cm base u m w c H W->CT 201 #[PP u,II (i:Int),II (k:Int),II (c.rX k)] W fun e w'=>e=.returned (.tuple #[])/\iZ base u (c.S.gW i k (c.rX k)) H W w'):=fun W B=>ae HT W c.S H k _ B.st (ae E) hkN hik (by omega) (by omega)
    have Jr:Hid (∀A W,Cm base u m w { c with S:=c.S.gW i k (c.rX k) } A W->∀fst,fst=(if wrap64 (c.count+1)=1 then (c.S.t.length:Int)+1 else c.first)->∀W',aj (fun b=>b=w.heap.size+1) W W'->au W' (w.heap.size+1) #[II (wrap64 (c.filled+c.rX k)),II 0,II 0,II fst,II (wrap64 (c.count+1))] 87->Cm base u m w (c.step i k) A W'):=by
     intro A W B fst Y W' kW bW;rw[ae V,<-Y];exact B.put rfl kW bW
    have M:(decide ((ak c.S.l k).aH<c.left)=true/\c.rX k=(ak c.S.l k).aH)\/(decide ((ak c.S.l k).aH<c.left)=false/\c.rX k=c.left):=by
     unfold RC.rX;by_cases K:(ak c.S.l k).aH<c.left
     ·left;exact⟨by simpa using K,if_pos K⟩
     ·right;exact⟨by simpa using K,if_neg K⟩
    have hcnt:((wrap64 (c.count+1) == 1)=true/\(c.S.t.length:Int)+1=(if wrap64 (c.count+1)=1 then (c.S.t.length:Int)+1 else c.first))\/((wrap64 (c.count+1) == 1)=false/\c.first=(if wrap64 (c.count+1)=1 then (c.S.t.length:Int)+1 else c.first)):=by
     by_cases K:wrap64 (c.count+1)=1
     ·left;exact⟨by simp[K],by rw[if_pos K]⟩
     ·right;exact⟨by simp[K],by rw[if_neg K]⟩
    clear v X ho1 hk hl he2;rcases hcnt with⟨e3,Y⟩ | ⟨e3,Y⟩
    ·rcases M with⟨P,M⟩ | ⟨P,M⟩
     all_goals
      obtain⟨HFS,Y8⟩:=aZ Y M;clear Y M;rw[ae Y8]at HCT Jr HLT;go_wp2;go_quiet (fail);go_wp2_with (first
       | (go_at_call 201;refine (ae HCT _ ((ae F).ext ((aj.refl _ _).drewN _))).mono ?_;rintro e J ⟨rfl,R⟩;obtain⟨A,s⟩:=((ae F).ext ((aj.refl aA wr).drewN _)).next R;obtain⟨G,c3,a3,t3,u1,u2,ng3,lg3,y0,y1,y2,y3,y4,y5,y6⟩:=ae HLT _ A J rfl s;have acd:=ng3.symm;have q0:=s.r.cell 0;have q3:=s.r.cell 3;have q4:=s.r.cell 4;simp at q0 q3 q4;have p0:=s.r.frozen 0;have p3:=s.r.frozen 3;have p4:=s.r.frozen 4;have C:=ai s;clear s R)
       | fail)
      have YX:=ai (ae Jr A J (ae C) _ (ae HFS));refine (ae HB2 _ A (ae YX _ ?kW ?bW).st).mono ?_
      case kW=>exact (((aj.refl (fun b=>b=w.heap.size+1) J).setCell (p:=⟨w.heap.size+1,0,none⟩) (.inl rfl) _).setCell (p:=⟨w.heap.size+1,4,none⟩) (.inl rfl) _).setCell (p:=⟨w.heap.size+1,3,none⟩) (.inl rfl) _
      case bW=>exact (((ae C).r.set 0 _).set 4 _).set 3 _
      rintro e w5 ⟨rfl,k5⟩;have Vt:Hid (Cm base u m w (c.step i k) A w5):=by
       refine (ae YX _ ?kW ?bW).ext k5
       case kW=>exact (((aj.refl (fun b=>b=w.heap.size+1) J).setCell (p:=⟨w.heap.size+1,0,none⟩) (.inl rfl) _).setCell (p:=⟨w.heap.size+1,4,none⟩) (.inl rfl) _).setCell (p:=⟨w.heap.size+1,3,none⟩) (.inl rfl) _
       case bW=>exact (((ae C).r.set 0 _).set 4 _).set 3 _
      have U:Hid ((c.step i k).left=wrap64 (c.left-c.rX k)):=by show _=_;rw[ae V]
      rw[ae Y8]at U;clear k5;go_wp2;go_roundg q
      case measure=>omega
      case rel=>exact⟨c.step i k,A,by first | (rw[ae U];done) | (rw[ae U,Int.sub_self,aU (by decide) (by decide)]),rfl,ae Vt,ae HEN,by rw[ae Zi];exact ae E,by have:=ae Z;omega,by have:=ae Z;omega⟩
    ·rcases M with⟨P,M⟩ | ⟨P,M⟩
     all_goals
      obtain⟨HFS,Y8⟩:=aZ Y M;clear Y M;rw[ae Y8]at HCT Jr HLT;go_wp2;go_quiet (fail);go_wp2_with (first
       | (go_at_call 201;refine (ae HCT _ ((ae F).ext ((aj.refl _ _).drewN _))).mono ?_;rintro e J ⟨rfl,R⟩;obtain⟨A,s⟩:=((ae F).ext ((aj.refl aA wr).drewN _)).next R;obtain⟨G,c3,a3,t3,u1,u2,ng3,lg3,y0,y1,y2,y3,y4,y5,y6⟩:=ae HLT _ A J rfl s;have acd:=ng3.symm;have q0:=s.r.cell 0;have q3:=s.r.cell 3;have q4:=s.r.cell 4;simp at q0 q3 q4;have p0:=s.r.frozen 0;have p3:=s.r.frozen 3;have p4:=s.r.frozen 4;have C:=ai s;clear s R)
       | fail)
      have YX:=ai (ae Jr A J (ae C) _ (ae HFS));refine (ae HB2 _ A (ae YX _ ?kW ?bW).st).mono ?_
      case kW=>exact ((aj.refl (fun b=>b=w.heap.size+1) J).setCell (p:=⟨w.heap.size+1,0,none⟩) (.inl rfl) _).setCell (p:=⟨w.heap.size+1,4,none⟩) (.inl rfl) _
      case bW=>exact ((ae C).r.set 0 _).set 4 _
      rintro e w5 ⟨rfl,k5⟩;have Vt:Hid (Cm base u m w (c.step i k) A w5):=by
       refine (ae YX _ ?kW ?bW).ext k5
       case kW=>exact ((aj.refl (fun b=>b=w.heap.size+1) J).setCell (p:=⟨w.heap.size+1,0,none⟩) (.inl rfl) _).setCell (p:=⟨w.heap.size+1,4,none⟩) (.inl rfl) _
       case bW=>exact ((ae C).r.set 0 _).set 4 _
      have U:Hid ((c.step i k).left=wrap64 (c.left-c.rX k)):=by show _=_;rw[ae V]
      rw[ae Y8]at U;clear k5;go_wp2;go_roundg q
      case measure=>omega
      case rel=>exact⟨c.step i k,A,by first | (rw[ae U];done) | (rw[ae U,Int.sub_self,aU (by decide) (by decide)]),rfl,ae Vt,ae HEN,by rw[ae Zi];exact ae E,by have:=ae Z;omega,by have:=ae Z;omega⟩
end Go.Proofs.YtigaphnafnpfnaaGreatDoor
