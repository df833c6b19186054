import Derived.Test.YtigaphnafnpfnaaGreatDoorQVY10
import Derived.Test.YtigaphnafnpfnaaGreatDoorQVZ1
import Derived.Test.YtigaphnafnpfnaaGreatDoorQVX26
import Derived.Test.YtigaphnafnpfnaaGreatDoorQVX27
import Derived.Test.YtigaphnafnpfnaaGreatDoorQVC5
set_option linter.unusedVariables false
set_option linter.unusedSimpArgs false
namespace Go.Proofs.YtigaphnafnpfnaaGreatDoor
open Go.RowKit Go.Maps
section
variable {p : Nat → Nat} {V : aW} {S : RS} {N : Nat}
theorem bF.open(h:bF p V S N){x:Nat}(hx:VL V x)(h0:(V.om x).opn≠0):∃i s k:Nat,i<V.nb∧s<2∧k<(V.B i).n s∧(V.B i).h s k=x∧(V.om x).sym=(V.B i).sym∧(V.om x).side=(s:Int):=by
 obtain⟨i,hi,e⟩:=h.gw.sym x hx
 obtain⟨s,hs,e2⟩:∃s:Nat,s<2∧(V.om x).side=(s:Int):=by
  rcases h.gw.side x hx with e | e
  ·exact⟨0,by omega,e⟩
  ·exact⟨1,by omega,e⟩
 have hp:0<(V.om x).opn:=by have:=(h.gw.q x hx).o0;omega
 obtain⟨k,hk,e3⟩:=((h.gw.gb i hi).mem s hs x).2 ⟨hx,e,e2,hp⟩
 exact⟨i,s,k,hi,hs,hk,e3.symm,e,e2⟩
theorem bF.apart(h:bF p V S N){w:World}{bv bm bo:Nat}(R:Rep w bv bm bo V){i x:Nat}(hx:VL V x)(hs:(V.om x).sym=(V.B i).sym)(hi:i<V.nb):Apart V i x:=by
 intro j hj hne t ht hsd
 rcases hsd with e | ⟨l,hl,e⟩
 ·obtain⟨id,hid⟩:=hx
  obtain⟨_,ix,ho⟩:=R.aQ id x hid
  exact ((R.book j hj).side t ht).ne ho (by decide) e
 ·have:=((h.gw.gb j hj).mem t ht _).1 ⟨l,hl,rfl⟩
  rw[←e,hs]at this
  exact hne (h.gw.kG i j hi hj this.2.1).symm
theorem bF.dU(h:bF p V S N)(id:Int):(V.aO id=none∧dU S.l id=6)∨∃j,fK S.l id=some j∧j<S.l.length∧V.aO id=some (p j)∧(((V.om (p j)).opn=0∧dU S.l id=10)∨((V.om (p j)).opn≠0∧(ah S.l j).opn≠0∧dU S.l id=0)):=by
 have hf:=h.found id
 unfold Go.Proofs.YtigaphnafnpfnaaGreatDoor.dU
 cases hx:fK S.l id with
 | none=>left;rw[hx]at hf;exact⟨hf,rfl⟩
 | some j =>
   right
   rw[hx]at hf
   have hj:=(gV hx).1
   have e:=(dI (h.same j hj)).2.2.2.2.2.2.2.2.1
   refine⟨j,rfl,hj,hf,?_⟩
   by_cases h0:(ah S.l j).opn=0
   ·left;rw[e];simp[h0]
   ·right;rw[e];simp[h0]
end
theorem vC.turn{V:aW}(h:vC V){i:Nat}{B':Bk}{df:Nat→Ord}{G':Lg}{aY:Lm}(hs:B'.sym=(V.B i).sym)(hm:∀x,(df x).sym=(V.om x).sym∧(df x).side=(V.om x).side∧(df x).id=(V.om x).id∧(df x).filled=(V.om x).filled)(h1:G'.tr=V.lg.tr)(h2:G'.tp=V.lg.tp):vC (V.mD i B' df G' aY):=by
 refine h.of rfl (fun j=>?_) rfl hm h1 h2
 show (upd V.B i B' j).sym=_
 by_cases e:j=i
 ·rw[e,upd_same,hs]
 ·rw[af _ _ e]
theorem GK{om:Nat→Ord}{b:Nat}{o':Ord}(h:o'.sym=(om b).sym∧o'.side=(om b).side∧o'.id=(om b).id∧o'.filled=(om b).filled)(x:Nat):(upd om b o' x).sym=(om x).sym∧(upd om b o' x).side=(om x).side∧(upd om b o' x).id=(om x).id∧(upd om b o' x).filled=(om x).filled:=by
 by_cases e:x=b
 ·rw[e,upd_same];exact h
 ·rw[af _ _ e];exact⟨rfl,rfl,rfl,rfl⟩
theorem II(bv bm bo N:Nat)(V:aW)(p:Nat→Nat)(S:RS)(id:Int)(w:World)(R:Rep w bv bm bo V)(hT:Tab w)(h:bF p V S N)(hN:N<2900000)(hz:vC V)(hwf:(Lit.int .i64 id).wf=true) :
 Calls Tryz.prog 37 #[.pointer (some ⟨bv,0,none⟩),.int .i64 id] w fun e w'=>∃E,e=.returned (.int .i64 E)∧Out bv bm bo V p S N (qw id) 0 0 0 0 0 E w w':=by
 have hlen:S.l.length≤1000:=by have:=h.no;have:=h.eF;omega
 have uD:dU S.l id≠0→∃S',iD S (qw id) S' (bu 0 0 0 0 0) (dU S.l id):=fun he =>
  ⟨S.fresh,fun base sb m W hW=>uN base sb S m (qw id) W hW rfl hlen he⟩
 rcases h.dU id with⟨h1,h2⟩ | ⟨j,h1,h2,h3,⟨h4,h5⟩ | ⟨h4,h4',h5⟩⟩
 ·rw[h2]at uD
  refine (xB bv bm bo V id w R hwf h1).mono ?_
  rintro e w' ⟨rfl,k⟩
  exact⟨6,rfl,.inl ⟨by decide,k,uD (by decide)⟩⟩
 ·rw[h5]at uD
  refine (qU bv bm bo (p j) V id w R hwf h3 h4).mono ?_
  rintro e w' ⟨rfl,k⟩
  exact⟨10,rfl,.inl ⟨by decide,k,uD (by decide)⟩⟩
 ·have rP:VL V (p j):=⟨id,h3⟩
  obtain⟨i,s,k,hi,hs,hk,hkb,a,c⟩:=h.open rP h4
  have hid:(ah S.l j).id=id:=(gV h1).2
  have aal:mG id:=uA (by rw[←hid];exact h.ids j h2)
  rw[←hkb]at h3 h4 a c rP
  refine (Ad bv bm bo i s k V id w R hT hwf hi hs hk h3 h4 c a (by have:=hz.sz i hi;unfold maxLen;omega) (by have:=h.zG;omega)).mono ?_
  rintro e w' ⟨rfl,hm,⟨aY,hl,hf⟩,kc⟩
  refine⟨0,rfl,.inr ⟨rfl,CP aal,Next.of R hi _ hm hl hf kc (fun x hx=>?_) (fun j hj hne t ht l hl=>?_) (fun x=>?_) rfl (fun t ht x hx=>?_) ⟨S.fresh.cancel j,p,h.cancel (ds:=[.left ((V.B i).h s k),.now ((V.B i).h s k) (V.om ((V.B i).h s k))]) hN hi hs hk h2 hkb.symm,rfl,fun base sb m W hW=>Dk base sb j S m (qw id) W hW rfl hlen h1 h4',by show 0≤201;omega,hz.turn rfl (GK ⟨rfl,rfl,rfl,rfl⟩) rfl rfl⟩⟩⟩
  ·rcases hx with hx | hx | hx | hx
   ·exact .inl hx
   ·exact .inr (.inl hx)
   ·exact .inr (.inr (.inl hx))
   ·exact .inr (.inr (.inr (.inl ⟨s,hs,hx⟩)))
  ·refine af _ _ (fun e=>h.apart R rP a hi j hj hne t ht ?_)
   rw[←e];exact .inr ⟨l,hl,rfl⟩
  ·by_cases e:x=(V.B i).h s k
   ·rw[e,upd_same];rfl
   ·rw[af _ _ e]
  ·left
   by_cases e:t=s
   ·subst e
    refine⟨t,ht,?_⟩
    rcases hx with hx | ⟨l,hl,hx⟩
    ·exact .inl hx
    ·obtain⟨k',hk',e',_⟩:=lG (om:=V.om) ((h.gw.gb i hi).inj t ht) hk l hl
     exact .inr ⟨k',hk',by rw[hx,e']⟩
   ·refine⟨t,ht,?_⟩
    unfold bQ at hx ⊢
    simp only[Bk.leave,af _ _ e]at hx
    exact hx
theorem zD{a b c:Int}(h1:mG a)(h2:mG b)(h3:mG c):vz (dF a b c):=by
 refine⟨_,fun W=>zM ⟨#[]⟩ 0 0 ⟨#[]⟩ 0 0 0 0 a b c false W h1 h2 h3,?_⟩
 have z1:=(bM a h1).2
 have z2:=(bM b h2).2
 have z3:=(bM c h3).2
 (repeat rw[ByteArray.size_append])
 show 8+(iG a).size+1+(iG b).size+1+(iG c).size≤300
 omega
theorem FQ(bv bm bo N:Nat)(V:aW)(p:Nat→Nat)(S:RS)(id price qty:Int)(w:World)(R:Rep w bv bm bo V)(hT:Tab w)(h:bF p V S N)(hN:N<2900000)(hz:vC V)(hwf:(Lit.int .i64 id).wf=true) :
 Calls Tryz.prog 38 #[.pointer (some ⟨bv,0,none⟩),.int .i64 id,.int .i64 price,.int .i64 qty] w fun e w'=>∃f r n a c E,e=.returned (.tuple #[bu f r n a c,.int .i64 E])∧Out bv bm bo V p S N (dF id price qty) f r n a c E w w':=by
 have hlen:S.l.length≤1000:=by have:=h.no;have:=h.eF;omega
 have Bl:=h.Bl
 have tpN:=h.tpN
 have zG:=h.zG
 have Yi:=h.eF
 rcases h.dU id with⟨h1,h2⟩ | ⟨j,h1,h2,h3,⟨h4,h5⟩ | ⟨h4,h4',h5⟩⟩
 ·have hd:iD S (dF id price qty) S.fresh (bu 0 0 0 0 0) 6:=fun base sb m W hW=>jc base sb S S.fresh m (dF id price qty) 0 0 0 0 0 6 W hW rfl (fun W' m' hW'=>by
   have:=tZ base sb S.fresh m' (dF id price qty) W' hW' hlen (by show dU S.l id≠0;rw[h2];decide)
   rw[show dU S.fresh.l (dF id price qty).a=6 from h2]at this
   exact this.mono (fun e w' ⟨h1,k⟩=>⟨h1,(fP.refl hW').ext k⟩))
  refine (wH bv bm bo V id price qty w R hwf h1).mono ?_
  rintro e w' ⟨rfl,k⟩
  exact⟨0,0,0,0,0,6,rfl,.inl ⟨by decide,k,_,hd⟩⟩
 ·have hd:iD S (dF id price qty) S.fresh (bu 0 0 0 0 0) 10:=fun base sb m W hW=>jc base sb S S.fresh m (dF id price qty) 0 0 0 0 0 10 W hW rfl (fun W' m' hW'=>by
   have:=tZ base sb S.fresh m' (dF id price qty) W' hW' hlen (by show dU S.l id≠0;rw[h5];decide)
   rw[show dU S.fresh.l (dF id price qty).a=10 from h5]at this
   exact this.mono (fun e w' ⟨h1,k⟩=>⟨h1,(fP.refl hW').ext k⟩))
  refine (yM bv bm bo (p j) V id price qty w R hwf h3 h4).mono ?_
  rintro e w' ⟨rfl,k⟩
  exact⟨0,0,0,0,0,10,rfl,.inl ⟨by decide,k,_,hd⟩⟩
 ·by_cases hnum:bg price=true∧bg qty=true
  ·obtain⟨hp,hq⟩:=hnum
   have JD:1≤qty∧qty≤1000000:=by simpa [bg] using hq
   have rP:VL V (p j):=⟨id,h3⟩
   obtain⟨i,t,k,hi,ht,hk,hkb,a,c⟩:=h.open rP h4
   have hap:=h.apart R rP a hi
   have hid:(ah S.l j).id=id:=(gV h1).2
   have Ul:bg id=true:=by rw[←hid];exact h.ids j h2
   have hln:=zD (uA Ul) (uA hp) (uA hq)
   obtain⟨e1,e2,e3,e4,e5,e6,e7,e8,e9,e10,e11,e12⟩:=dI (h.same j h2)
   have h00:=(h.gw.q _ rP).o0
   by_cases hkeep:price=(V.om (p j)).price∧qty≤(V.om (p j)).opn
   ·refine (Dq bv bm bo (p j) i V id price qty w R hT hwf h3 h4 hp hq hi hkeep.1 hkeep.2 (by omega)).mono ?_
    rintro e w' ⟨rfl,hm,⟨aY,hl,hf⟩,kc⟩
    have hd:iD S (dF id price qty) (S.fresh.cu j (I4 (ah S.l j) qty)) (bu 0 qty 0 0 0) 0:=fun base sb m W hW=>jc base sb S _ m (dF id price qty) 0 qty 0 0 0 0 W hW rfl (fun W' m' hW' =>
     zO base sb j S.fresh m' (dF id price qty) W' hW' hlen h1 h4' hp hq (by show price=(ah S.l j).price;rw[←e6];exact hkeep.1) (by show qty≤(ah S.l j).opn;rw[←e9];exact hkeep.2))
    refine⟨0,qty,0,0,0,0,rfl,.inr ⟨rfl,hln,Next.of R hi _ hm hl hf kc (fun x hx=>?_) (fun j' hj' hne t' ht' l hl=>?_) (fun x=>?_) rfl (fun t' ht' x hx=>.inl ⟨t',ht',hx⟩) ⟨_,p,h.keeps (i:=i) (ds:=[.now (p j) (V.om (p j))]) hN h2 hkeep.1 JD.1 JD.2 (by omega),rfl,hd,by show 0≤201;omega,hz.turn rfl (GK ⟨rfl,rfl,rfl,rfl⟩) rfl rfl⟩⟩⟩
    ·rcases hx with hx | hx | hx
     ·exact .inl hx
     ·exact .inr (.inl hx)
     ·exact .inr (.inr (.inr (.inr ⟨by rw[hx];exact rP,by rw[hx];exact hap⟩)))
    ·refine af _ _ (fun e=>hap j' hj' hne t' ht' ?_)
     rw[←e];exact .inr ⟨l,hl,rfl⟩
    ·by_cases e:x=p j
     ·rw[e,upd_same];rfl
     ·rw[af _ _ e]
   ·obtain⟨s,hs,hts⟩:∃s,s<2∧t=1-s:=⟨1-t,by omega,by omega⟩
    have hcn:=h.count hi ht
    have hcs:=h.count hi hs
    have iv:=(h.anew (g:=0) (cap':=0) (aY:=V.lm) (price:=price) hN hi hs hts hk h2 hkb JD.1 JD.2).1
    refine (Dp bv bm bo (p j) i s t k V id price qty w R hT hwf h3 h4 hp hq hi a (by have:=hz.sz i hi;unfold maxLen;omega) hs hts hk hkb c hkeep iv (by omega) (by omega) (by omega) (by omega) (by omega)).mono ?_
    rintro e w' ⟨v,w3,lI,rfl,k3,hf3,w4,⟨hv,g,cap',aY,hm,hl,hf,k4,hg⟩,hr4,k5⟩
    obtain⟨_,c',f,hEn,Xu,dJ,hrep,htp,htold⟩:=h.anew (g:=g) (cap':=cap') (aY:=aY) (price:=price) hN hi hs hts hk h2 hkb JD.1 JD.2
    obtain⟨gv,run,ivz,hBs,_⟩:=h.gw.anew (g:=g) (cap':=cap') (aY:=aY) (qf (Nat.le_add_right N 1)) (by unfold mN;omega) hi hs hts hk hkb (o':=fZ (V.om (p j)) price qty) rfl rfl (Dl (M':=mN (N+1)) (h.gw.q _ rP) (by unfold mN;push_cast;omega) (by unfold mN;omega) JD.1 JD.2).1
    obtain⟨rf,rr,rn,ra,rk,JE⟩:=tX j c'
    have hd:iD S (dF id price qty) (nN j c') (bu rf rr rn ra rk) 0:=fun base sb m W hW=>jc base sb S _ m (dF id price qty) rf rr rn ra rk 0 W hW rfl (fun W' m' hW'=>by
     have htl:S.fresh.t.length=V.lg.tr.length:=by rw[h.tr];rfl
     have:=zN base sb j f S.fresh m' (dF id price qty) c' W' hW' hlen h1 h4' hp hq (by rintro⟨x1,x2⟩;exact hkeep ⟨by rw[e6];exact x1,by rw[e9];exact x2⟩) hEn (by rw[htl];omega) (by show 0+f<_;omega)
     rw[JE]at this
     exact this)
    refine⟨rf,rr,rn,ra,rk,0,?_,.inr ⟨rfl,hln,?_⟩⟩
    ·rw[←JE,←hrep,hv]
     simp only[upd_same]
     rfl
    have sz3:=k3.size
    have PL:∀y,y<2→∀x,bQ ((V.B i).leave V.om t k) y x→bQ (V.B i) y x:=fun y hy x hx=>by
     by_cases e:y=t
     ·subst e
      rcases hx with hx | ⟨l,hl,hx⟩
      ·exact .inl hx
      ·obtain⟨k',hk',e',_⟩:=lG (om:=V.om) ((h.gw.gb i hi).inj y hy) hk l hl
       exact .inr ⟨k',hk',by rw[hx,e']⟩
     ·unfold bQ at hx ⊢
      simp only[Bk.leave,af _ _ e]at hx
      exact hx
    obtain⟨f1,f2,f3,f4,f5⟩:=jG (p j) s (mu (p j) s ⟨(V.B i).leave V.om t k,upd V.om (p j) (fZ (V.om (p j)) price qty),V.lg.moved (p j) (V.om (p j))⟩) ⟨(V.B i).leave V.om t k,upd V.om (p j) (fZ (V.om (p j)) price qty),V.lg.moved (p j) (V.om (p j))⟩
    have kk:ag (fun x=>x=bv∨V.lm.F x∨x=V.bk i∨x=p j∨bQ (V.B i) s x∨bQ (V.B i) t x) w w4:=by
     refine (k3.mono (fun x hx=>?_)).from (k4.mono (fun x hx=>?_))
     ·rcases hx with hx | hx | hx | hx | hx
      ·exact .inl hx
      ·exact .inr (.inl hx)
      ·exact .inr (.inr (.inl hx))
      ·exact .inr (.inr (.inr (.inl hx)))
      ·exact .inr (.inr (.inr (.inr (.inr hx))))
     ·rcases hx with hx | hx | hx | hx | hx | hx
      ·exact .inl (.inl hx)
      ·exact (hf3 x hx).imp_left (fun h=>.inr (.inl h))
      ·exact .inl (.inr (.inr (.inl hx)))
      ·exact .inl (.inr (.inr (.inr (.inl hx))))
      ·exact .inl (.inr (.inr (.inr (.inr (.inl (PL s hs x hx))))))
      ·exact .inl (.inr (.inr (.inr (.inr (.inr (PL t ht x hx))))))
    have stat:∀x,Stat (upd V.om (p j) (fZ (V.om (p j)) price qty) x) ((mF (p j) s ⟨(V.B i).leave V.om t k,upd V.om (p j) (fZ (V.om (p j)) price qty),V.lg.moved (p j) (V.om (p j))⟩).om x):=run.stat
    have far:=run.far
    have hN':=Next.of R hi (fun V'=>∃S' p',bF p' V' S' (N+1)∧V'.lg.tp=recs V.lg.tp S'.told∧iD S (dF id price qty) S' (bu rf rr rn ra rk) 0∧S'.told.length≤201∧vC V') hm hl (fun x hx=>(hf x hx).elim (fun h=>hf3 x h) (fun h=>.inr (Nat.le_trans sz3 h))) kk (fun x hx=>?_) (fun j' hj' hne t' ht' l hl=>?_) (fun x=>?_) ?_ (fun t' ht' x hx=>?_) ⟨nN j c',p,dJ,htp,hd,htold,hz.anew h.gw (qf (Nat.le_add_right N 1)) (by unfold mN;omega) hi hs hts hk hkb rfl rfl rfl rfl (Dl (M':=mN (N+1)) (h.gw.q _ rP) (by unfold mN;push_cast;omega) (by unfold mN;omega) JD.1 JD.2).1 ivz hBs⟩
    ·exact hN'.keep hr4 (Nat.le_refl _) k5
    ·rcases hx with hx | hx | hx | hx | hx | hx
     ·exact .inl hx
     ·exact .inr (.inl hx)
     ·exact .inr (.inr (.inl hx))
     ·exact .inr (.inr (.inr (.inr ⟨by rw[hx];exact rP,by rw[hx];exact hap⟩)))
     ·exact .inr (.inr (.inr (.inl ⟨s,hs,hx⟩)))
     ·exact .inr (.inr (.inr (.inl ⟨t,ht,hx⟩)))
    ·have hne2:(V.B j').h t' l≠p j:=fun e=>hap j' hj' hne t' ht' (by rw[←e];exact .inr ⟨l,hl,rfl⟩)
     rw[nY _ _ hne2,far _ hne2 (fun hmm=>?_)]
     ·exact af _ _ hne2
     ·obtain⟨k2,hk2,e2⟩:=hmm
      have hsd:bQ (V.B i) s ((V.B j').h t' l):=PL s hs _ (.inr ⟨k2,hk2,e2⟩)
      exact R.oG i j' hi hj' (fun e=>hne e.symm) s t' hs ht' _ hsd (.inr ⟨l,hl,rfl⟩)
    ·rw[uy]
     rw[(stat x).1]
     by_cases e:x=p j
     ·rw[e,upd_same];rfl
     ·rw[af _ _ e]
    ·rw[mZ]
     exact f4
    ·rcases xG hx with hx | hx | hx
     ·left
      by_cases es:t'=s
      ·subst es
       refine⟨t',ht',PL t' ht' x ?_⟩
       exact (uI _ _ iv).2.2.1 x hx
      ·refine⟨t',ht',PL t' ht' x ?_⟩
       unfold bQ mF at hx
       rw[f2,(f1 t' es).1,(f1 t' es).2]at hx
       exact hx
     ·exact .inr (.inl ⟨by rw[hx];exact rP,by rw[hx];exact hap⟩)
     ·rcases hg with hg | hg
      ·exact .inl ⟨t,ht,.inl (by rw[hx];exact hg)⟩
      ·right;right;omega
  ·have hr:bg price=false∨(bg price=true∧bg qty=false):=by
    cases h6:bg price
    ·exact .inl rfl
    ·right;refine⟨rfl,?_⟩
     cases h7:bg qty
     ·rfl
     ·exact absurd ⟨h6,h7⟩ hnum
   have hd:iD S (dF id price qty) S.fresh (bu 0 0 0 0 0) 4:=fun base sb m W hW=>jc base sb S S.fresh m (dF id price qty) 0 0 0 0 0 4 W hW rfl (fun W' m' hW'=>by
    have:=yO base sb S.fresh m' (dF id price qty) W' hW' hlen h5 (hr.imp_right (fun x=>x.2))
    exact this.mono (fun e w' ⟨h1,k⟩=>⟨h1,(fP.refl hW').ext k⟩))
   refine (zK bv bm bo (p j) V id price qty w R hwf h3 h4 hr).mono ?_
   rintro e w' ⟨rfl,k⟩
   exact⟨0,0,0,0,0,4,rfl,.inl ⟨by decide,k,_,hd⟩⟩
theorem Yx(a b c d e f g h i j k l m n:ByteArray):(a++b++c++d++e++f++g++h++i++j++k++l++m++n).size=a.size+b.size+c.size+d.size+e.size+f.size+g.size+h.size+i.size+j.size+k.size+l.size+m.size+n.size:=by
 simp only[ByteArray.size_append]
theorem Fj{o:Ask}(h1:mG o.id)(h2:mG o.owner)(h3:mG o.side)(h4:mG o.kind)(h5:mG o.price)(h6:mG o.qty)(hs:o.sym.size≤100):vz (BD o):=by
 refine⟨_,fun W=>Gi ⟨#[]⟩ o.id o.owner o.sym o.side o.kind o.price o.qty 0 0 0 false W h1 h2 h3 h4 h5 h6 (by omega),?_⟩
 have z1:=(bM _ h1).2
 have z2:=(bM _ h2).2
 have z3:=(bM _ h3).2
 have z4:=(bM _ h4).2
 have z5:=(bM _ h5).2
 have z6:=(bM _ h6).2
 unfold Fg
 rw[Yx]
 show 6+(iG o.id).size+1+(iG o.owner).size+1+o.sym.size+1+(iG o.side).size+1+(iG o.kind).size+1+(iG o.price).size+1+(iG o.qty).size≤300
 omega
theorem bF.Yq{p:Nat→Nat}{V:aW}{S:RS}{N:Nat}(h:bF p V S N)(o:Ask):lS S o=bD o (V.aO o.id).isSome (iC S.sy o.sym) (decide (200≤V.no)) (dD S.l o).isSome (decide (iZ S.l o S.l.length<o.qty)):=by
 unfold lS
 rw[h.found o.id,h.no]
 congr 1
 cases fK S.l o.id <;> rfl
theorem F9{p:Nat→Nat}{V:aW}{S:RS}{N:Nat}(bv bm bo:Nat)(h:bF p V S N)(hN:N<2900000)(o:Ask)(hlen:o.sym.size≤maxLen)(hid:(Lit.int .i64 o.id).wf=true)(W:World)(R:Rep W bv bm bo V) :
 Calls Tryz.prog 111 #[.pointer (some ⟨bv,0,none⟩),o.val] W fun e w'=>e=.returned (.int .i64 (lS S o))∧ag ak W w':=by
 have hM:mN N≤1000000000000000:=by unfold mN;omega
 rw[h.Yq o]
 have hth:(iC S.sy o.sym=true∧∃i,i<V.nb∧(V.B i).sym=o.sym)∨(iC S.sy o.sym=false∧∀i,i<V.nb→(V.B i).sym≠o.sym):=by
  cases hx:iC S.sy o.sym
  ·right;refine⟨rfl,fun i hi e=>?_⟩
   rw[(h.there _).2 ⟨i,hi,e⟩]at hx;exact absurd hx (by decide)
  ·left;exact⟨rfl,(h.there _).1 hx⟩
 have early:iC S.sy o.sym=false∨200≤V.no∨bD o (V.aO o.id).isSome (iC S.sy o.sym) (decide (200≤V.no)) (dD S.l o).isSome (decide (iZ S.l o S.l.length<o.qty))≠(if o.kind=4∧(dD S.l o).isSome=true then 8 else if o.kind=3∧decide (iZ S.l o S.l.length<o.qty)=true then 9 else 0) →
  Calls Tryz.prog 111 #[.pointer (some ⟨bv,0,none⟩),o.val] W fun e w'=>e=.returned (.int .i64 (bD o (V.aO o.id).isSome (iC S.sy o.sym) (decide (200≤V.no)) (dD S.l o).isSome (decide (iZ S.l o S.l.length<o.qty))))∧ag ak W w' :=
  fun hE=>zJ bv bm bo V o W R hlen hid _ _ _ hth hE
 have nE:∀(k:Int),(k=1∨k=2∨k=4∨k=5)→k≠(if o.kind=4∧(dD S.l o).isSome=true then 8 else if o.kind=3∧decide (iZ S.l o S.l.length<o.qty)=true then 9 else 0):=by
  intro k hk
  split
  ·omega
  ·split <;> omega
 rcases pJ o (V.aO o.id).isSome (iC S.sy o.sym) (decide (200≤V.no)) (dD S.l o).isSome (decide (iZ S.l o S.l.length<o.qty)) with⟨_,e⟩ | ⟨_,_,e⟩ | ⟨g1,g2,⟨_,e⟩ | ⟨_,_,e⟩ | ⟨g3,g4,⟨_,e⟩ | ⟨g5,⟨_,e⟩ | ⟨_,_,e⟩ | ⟨g6,g7,⟨g8,e⟩ | ⟨g8,g9,e⟩ | ⟨g8,g9,e⟩⟩⟩⟩⟩
 ·exact early (.inr (.inr (by rw[e];exact nE 1 (by omega))))
 ·exact early (.inr (.inr (by rw[e];exact nE 2 (by omega))))
 ·exact early (.inr (.inr (by rw[e];exact nE 4 (by omega))))
 ·exact early (.inr (.inr (by rw[e];exact nE 4 (by omega))))
 ·exact early (.inr (.inr (by rw[e];exact nE 5 (by omega))))
 ·exact early (.inr (.inr (by rw[e];exact nE 4 (by omega))))
 ·exact early (.inr (.inr (by rw[e];exact nE 4 (by omega))))
 ·exact early (.inl g8)
 ·exact early (.inr (.inl (by simpa using g9)))
 ·rw[e]
  have h2:V.aO o.id=none:=by simpa using g2
  have h8:V.no<200:=by simp at g9;omega
  obtain⟨i,hi,bY⟩:=(h.there _).1 g8
  have hsd:o.side=0∨o.side=1:=by
   unfold gZ at g4
   simp at g4
   exact g4
  obtain⟨t,ht,hst⟩:∃t:Nat,t<2∧o.side=(t:Int):=by
   rcases hsd with e | e
   ·exact⟨0,by omega,e⟩
   ·exact⟨1,by omega,e⟩
  obtain⟨s,hs,hts⟩:∃s,s<2∧t=1-s:=⟨1-t,by omega,by omega⟩
  have hside:o.side=1-(s:Int):=by omega
  by_cases hk4:o.kind=4
  ·have:=tY bv bm bo i s V o W R hi bY hlen g1 h2 g3 g4 g5 g6 g7 h8 hk4 hs hside
   rw[h.cross hi hs hts bY.symm hst]at this
   rw[show (if o.kind=4∧(dD S.l o).isSome=true then (8:Int) else if o.kind=3∧decide (iZ S.l o S.l.length<o.qty)=true then 9 else 0)=if (dD S.l o).isSome=true then 8 else 0 by
    by_cases hb:(dD S.l o).isSome=true
    ·rw[if_pos ⟨hk4,hb⟩,if_pos hb]
    ·rw[if_neg (fun x=>hb x.2),if_neg (fun x=>by omega),if_neg hb]]
   exact this
  ·by_cases hk3:o.kind=3
   ·have:=rC bv bm bo i s V o W R hi bY hlen g1 h2 g3 g4 g5 g6 g7 h8 hk3 hs hside (fun k hk=>by
     have hm:=((h.gw.gb i hi).mem s hs _).1 ⟨k,hk,rfl⟩
     have q:=h.gw.q _ hm.1
     have:=q.o0;have:=q.f0;have:=q.c0;have:=q.e0;have:=q.sum;have:=q.hi
     omega)
    rw[h.whole hi hs hts bY.symm hst]at this
    rw[show (if o.kind=4∧(dD S.l o).isSome=true then (8:Int) else if o.kind=3∧decide (iZ S.l o S.l.length<o.qty)=true then 9 else 0)=if iZ S.l o S.l.length<o.qty then 9 else 0 by
     rw[if_neg (fun x=>hk4 x.1)]
     by_cases hb:iZ S.l o S.l.length<o.qty
     ·rw[if_pos ⟨hk3,by simpa using hb⟩,if_pos hb]
     ·rw[if_neg (fun x=>hb (by simpa using x.2)),if_neg hb]]
    exact this
   ·rw[if_neg (fun x=>hk4 x.1),if_neg (fun x=>hk3 x.1)]
    exact IY bv bm bo i V o W R hi bY hlen g1 h2 g3 g4 g5 g6 g7 h8 hk3 hk4
theorem LJ(bv bm bo N:Nat)(V:aW)(p:Nat→Nat)(S:RS)(o:Ask)(w:World)(R:Rep w bv bm bo V)(hT:Tab w)(h:bF p V S N)(hN:N<2900000)(hz:vC V)(hlen:o.sym.size≤1000000000)(hid:(Lit.int .i64 o.id).wf=true)(WN:bZ o.owner)(WM:bZ o.kind)(WO:bZ o.price) :
 Calls Tryz.prog 64 #[.pointer (some ⟨bv,0,none⟩),o.val] w fun e w'=>∃f r n a c E,e=.returned (.tuple #[bu f r n a c,.int .i64 E])∧Out bv bm bo V p S N (BD o) f r n a c E w w':=by
 have hM:mN N≤1000000000000000:=by unfold mN;omega
 have hml:o.sym.size≤maxLen:=by unfold maxLen;omega
 have Y6:S.l.length≤200:=by have:=h.no;have:=h.eF;omega
 have hsy:S.sy.length≤1000:=by have:=h.nb;have:=h.OZ;omega
 have hop:∀k,k<S.l.length→0≤(ah S.l k).opn∧(ah S.l k).opn≤1000000000000000:=fun k hk=>by have:=h.opn hk;omega
 have Bl:=h.Bl
 have tpN:=h.tpN
 have zG:=h.zG
 have hrf:=F9 bv bm bo h hN o hml hid
 by_cases hE:lS S o=0
 ·have Ov:=h.Yq o
  rw[hE]at Ov
  rcases pJ o (V.aO o.id).isSome (iC S.sy o.sym) (decide (200≤V.no)) (dD S.l o).isSome (decide (iZ S.l o S.l.length<o.qty)) with⟨_,e⟩ | ⟨_,_,e⟩ | ⟨g1,g2,⟨_,e⟩ | ⟨_,_,e⟩ | ⟨g3,g4,⟨_,e⟩ | ⟨g5,⟨_,e⟩ | ⟨_,_,e⟩ | ⟨g6,g7,⟨g8,e⟩ | ⟨g8,g9,e⟩ | ⟨g8,g9,e⟩⟩⟩⟩⟩
  case inr.inr.inr.inr.inr.inr.inr.inr.inr =>
   have h2:V.aO o.id=none:=by simpa using g2
   have h8:V.no<200:=by simp at g9;omega
   obtain⟨i,hi,bY⟩:=(h.there _).1 g8
   have hsd:o.side=0∨o.side=1:=by
    unfold gZ at g4
    simp at g4
    exact g4
   obtain⟨t,ht,hst⟩:∃t:Nat,t<2∧o.side=(t:Int):=by
    rcases hsd with e | e
    ·exact⟨0,by omega,e⟩
    ·exact⟨1,by omega,e⟩
   obtain⟨s,hs,hts⟩:∃s,s<2∧t=1-s:=⟨1-t,by omega,by omega⟩
   have JD:1≤o.qty∧o.qty≤1000000:=by simpa [bg] using g6
   have SB:o.sym.size≤100:=by rw[←bY];exact hz.sz i hi
   have hinv:∀k,k<(V.B i).n s→(V.om ((V.B i).h s k)).side=(s:Int)∧0<(V.om ((V.B i).h s k)).opn∧(V.om ((V.B i).h s k)).opn≤1000000000000000:=fun k hk=>by
    obtain⟨a,b,c,d⟩:=((h.gw.gb i hi).mem s hs _).1 ⟨k,hk,rfl⟩
    have q:=h.gw.q _ a
    exact⟨c,d,by have:=q.sum;have:=q.f0;have:=q.c0;have:=q.e0;have:=q.hi;omega⟩
   rw[hE]at hrf
   refine (KJ bv bm bo i s t V o w R hT hi bY SB WN WM WO g1 h2 g6 h8 hrf hs hts hst hinv (h.count hi (by omega)) (h.count hi hs) (by omega) (by omega) (by omega)).mono ?_
   rintro e w' ⟨v,rfl,b,g,cap',aY,hb,rfl,R',k,hF,_⟩
   have hbn:¬VL V b:=fun ⟨id,hx⟩=>by
    obtain⟨_,ix,hob⟩:=R.aQ id b hx
    have:=hob.lt;omega
   obtain⟨c',f,hEn,Xu,dJ,hrep,htp,htold⟩:=h.enter (g:=g) (cap':=cap') (aY:=aY) hN hi hs hts bY.symm hst JD.1 JD.2 h2 hbn h8 g1
   obtain⟨gv,run,ivz,hBs,_⟩:=h.gw.enter (b:=b) (g:=g) (cap':=cap') (aY:=aY) hM hi hs hts bY.symm hst (by omega) (by unfold mN;omega) h2 hbn
   obtain⟨rf,rr,rn,ra,rk,JE⟩:=tX S.l.length c'
   have hfo:mG o.owner:=by unfold jJ at g3;simp at g3;exact⟨by omega,by omega⟩
   have hfs:mG o.side:=⟨by omega,by omega⟩
   have hfk:mG o.kind:=by unfold jY at g5;simp at g5;exact⟨by omega,by omega⟩
   have hfp:mG o.price:=by unfold iw at g7;split at g7 <;> simp[bg]at g7 <;> exact⟨by omega,by omega⟩
   refine⟨rf,rr,rn,ra,rk,0,?_,.inr ⟨rfl,Fj (uA g1) hfo hfs hfk hfp (uA g6) SB,_,R',⟨nN S.l.length c',_,dJ,htp,fun base sb m W hW=>?_,htold,?_⟩,k,hF⟩⟩
   ·rw[←JE,←hrep]
   ·have htl:S.t.length=V.lg.tr.length:=by rw[h.tr]
    have:=F7 base sb f S m (BD o) c' W hW rfl (by omega) hsy hop hE hEn (by rw[htl];omega) (by omega)
    rw[JE]at this
    exact this
   ·exact hz.enter h.gw hM hi hs bY.symm (by omega) (by unfold mN;omega) h2 hbn ivz hBs
  all_goals
   rw[e]at Ov
   exact absurd Ov (by decide)
 ·refine (KI bv o (lS S o) w hE (fun W kW=>hrf W (R.aj kW))).mono ?_
  rintro e w' ⟨rfl,k⟩
  exact⟨0,0,0,0,0,lS S o,rfl,.inl ⟨hE,k,S.fresh,fun base sb m W hW=>wG base sb S m (BD o) W hW rfl (by omega) hsy hop hE⟩⟩
theorem Rep.OI{w w':World}{bv bm bo:Nat}{V:aW}(R:Rep w bv bm bo V){K:Nat→Prop}(k:ag K w w')(nf:∀y,dX bv bm bo V y→¬K y):Rep w' bv bm bo V:=by
 obtain⟨gB,nB,g1,g2⟩:=R.books
 obtain⟨gO,nO,g3⟩:=R.orders
 exact⟨R.log.kept k (nf _ (.inl rfl)) (fun y hy=>nf y (.inr (.inr (.inr (.inr (.inr hy)))))),⟨gB,nB.kept k (nf _ (.inr (.inl rfl))),g1,g2⟩,⟨gO,nO.kept k (nf _ (.inr (.inr (.inl rfl)))),g3⟩,R.MQ,fun j hj=>(R.book j hj).kept k (fun y hy=>nf y (by
  rcases hy with h | ⟨z,hz,h⟩
  ·exact .inr (.inr (.inr (.inl ⟨j,hj,.inl h⟩)))
  ·exact .inr (.inr (.inr (.inl ⟨j,hj,.inr ⟨z,hz,h⟩⟩))))),fun id y h=>⟨(R.aQ id y h).1,(R.aQ id y h).2.elim fun ix ho=>⟨ix,k.blk ho (nf y (.inr (.inr (.inr (.inr (.inl ⟨id,h⟩))))))⟩⟩,R.mem,R.uT,R.oG,R.eF⟩
structure Pr where
 bv:Nat
 bm:Nat
 bo:Nat
 rb:Nat
 V:aW
 A:List aP
 R:List Rc
 L:ByteArray
 av:Value
 rv:Value
 p:Nat→Nat
 S:RS
 N:Nat
structure jA(w:World)(x:Pr):Prop where
 rep:Rep w x.bv x.bm x.bo x.V
 doc:RV w 0 x.rb x.A x.R x.L x.av x.rv
 nH:bF x.p x.V x.S x.N
 hist:Hist x.A x.S
 apart:∀b,dX x.bv x.bm x.bo x.V b→¬RF x.rb x.av x.rv b
 aN:x.A.length≤x.N
 rt:x.V.lg.tp=x.R
 lN:x.L.size≤400 * x.N
 sz:vC x.V
def PF(x:Pr)(b:Nat):Prop:=dX x.bv x.bm x.bo x.V b∨RF x.rb x.av x.rv b
theorem jA.lt{w:World}{x:Pr}(h:jA w x){b:Nat}(hb:PF x b):b<w.heap.size:=by
 rcases hb with hb | hb
 ·exact h.rep.BU hb
 ·exact (h.doc.lt hb).2
theorem jA.kept{w w':World}{x:Pr}(h:jA w x){K:Nat→Prop}(k:ag K w w')(hK:∀b,PF x b→¬K b):jA w' x :=
 ⟨h.rep.OI k (fun b hb=>hK b (.inl hb)),h.doc.kept k (fun b hb=>hK b (.inr hb)),h.nH,h.hist,h.apart,h.aN,h.rt,h.lN,h.sz⟩
theorem jA.aj{w w':World}{x:Pr}(h:jA w x)(k:ag ak w w'):jA w' x:=h.kept k (fun _ _ z=>z)
def GN(x:Pr)(w w':World):Prop:=∃x',jA w' x'∧ag (PF x) w w'∧(∀b,PF x' b→PF x b∨w.heap.size≤b)∧x'.bv=x.bv∧x'.rb=x.rb∧x'.N≤x.N+1
def Bv(S:RS)(sym:ByteArray)(side:Int)(ls:List fJ)(E:Int):Prop :=
 (E=6∧ls=[]∧iC S.sy sym=false)∨(E=4∧ls=[]∧iC S.sy sym=true∧gZ side=false)∨(E=0∧iC S.sy sym=true∧(side=0∨side=1)∧kJ S.l sym side ls.length [] ls∧ls.length≤200)
theorem bF.book{p:Nat→Nat}{V:aW}{S:RS}{N:Nat}(h:bF p V S N)(hN:N<2900000){i s:Nat}(hi:i<V.nb)(hs:s<2){ys:List Nat}(hy:G8 V.om ((V.B i).n s) ((V.B i).h s) ys) :
 kJ S.l (V.B i).sym (s:Int) (gu (eY V.om ys)).length [] (gu (eY V.om ys))∧(gu (eY V.om ys)).length≤200:=by
 have hM:mN N≤1000000000000000:=by unfold mN;omega
 obtain⟨hp,hso⟩:=hy
 have hcnt:=h.count hi hs
 have hno:=h.eF
 have hmem:∀y∈ys,VL V y∧(V.om y).side=(s:Int):=fun y hy2=>by
  have:=hp.mem_iff.1 hy2
  unfold upto at this
  rw[List.mem_map]at this
  obtain⟨k,hk,rfl⟩:=this
  rw[List.mem_range]at hk
  have:=((h.gw.gb i hi).mem s hs _).1 ⟨k,hk,rfl⟩
  exact⟨this.1,this.2.2.1⟩
 have hlen:(eY V.om ys).length≤200:=by
  unfold eY
  rw[List.length_map,hp.length_eq,upto_length]
  omega
 have hl2:=qY (eY V.om ys) []
 have hL:(gu (eY V.om ys)).length≤200:=by
  unfold gu
  simp only[List.length_nil]at hl2
  omega
 refine⟨?_,hL⟩
 have hspec:=Rf (s:Int) (eY V.om ys) (by omega) (fun o ho=>by
  unfold eY at ho
  rw[List.mem_map]at ho
  obtain⟨y,hy2,rfl⟩:=ho
  have q:=h.gw.q y (hmem y hy2).1
  have:=q.o0;have:=q.f0;have:=q.c0;have:=q.e0;have:=q.sum;have:=q.hi
  omega) (by
  unfold eY
  rw[List.pairwise_map]
  have hpw:ys.Pairwise (fun a b=>(a∈ys∧b∈ys)∧dW V.om b a=false):=by
   rw[List.pairwise_iff_getElem]at hso ⊢
   intro a b ha hb hab
   exact⟨⟨List.getElem_mem ha,List.getElem_mem hb⟩,hso a b ha hb hab⟩
  refine hpw.imp ?_
  rintro a b ⟨⟨ha,hb⟩,hlt⟩
  unfold dW at hlt
  rw[eX]at hlt
  rw[(hmem b hb).2]at hlt
  unfold vZ
  intro hx
  exact hlt (.inl hx))
 refine KA s hs S.l (V.B i).sym ((eY V.om ys).map po) _ (by have:=h.no;omega) (fun k hk=>by have:=h.opn hk;omega) ?_ hspec
 have hperm:=h.perm hi hs
 have h1:((eY V.om ys).map po).Perm (((upto ((V.B i).h s) ((V.B i).n s)).map V.om).map po):=by
  unfold eY
  exact ((hp.map _).map _)
 refine h1.trans ?_
 refine ((hperm.map V.om).map po).trans ?_
 rw[List.map_map,List.map_map,List.map_map]
 refine List.Perm.of_eq (List.map_congr_left (fun k hk=>?_))
 obtain⟨_,_,_,_,_,e6,_,_,e9,_⟩:=dI (h.same k (wM.1 hk).1)
 simp only[Function.comp,po,e6,e9]
theorem Rn{x:Pr}{w:World}(h:jA w x)(hN:x.N<2000000)(sym:ByteArray)(side:Int)(hs:sym.size≤1000000000):Calls Tryz.prog 25 #[.pointer (some ⟨x.bv,0,none⟩),.string sym,.int .i64 side] w fun e w'=>∃v ls E,e=.returned (.tuple #[v,.int .i64 E])∧qE w.heap.size w' v ls∧ag ak w w'∧Bv x.S sym side ls E:=by
 have hml:sym.size≤maxLen:=by unfold maxLen;omega
 cases hx:iC x.S.sy sym
 ·refine (BK x.bv x.bm x.bo x.V sym side w h.rep hml (fun i hi e=>?_)).mono ?_
  ·rw[(h.nH.there _).2 ⟨i,hi,e⟩]at hx;exact absurd hx (by decide)
  ·rintro e w' ⟨rfl,k⟩
   exact⟨_,[],6,rfl,.inl ⟨rfl,rfl⟩,k,.inl ⟨rfl,rfl,hx⟩⟩
 ·obtain⟨i,hi,rfl⟩:=(h.nH.there _).1 hx
  cases hsd:gZ side
  ·refine (Hf x.bv x.bm x.bo i x.V side w h.rep hi hml hsd).mono ?_
   rintro e w' ⟨rfl,k⟩
   exact⟨_,[],4,rfl,.inl ⟨rfl,rfl⟩,k,.inr (.inl ⟨rfl,rfl,hx,hsd⟩)⟩
  ·have hs2:side=0∨side=1:=by unfold gZ at hsd;simpa using hsd
   obtain⟨s,hs3,rfl⟩:∃s:Nat,s<2∧side=(s:Int):=by
    rcases hs2 with e | e
    ·exact⟨0,by omega,e⟩
    ·exact⟨1,by omega,e⟩
   refine (Js x.bv x.bm x.bo i s x.V w h.rep hi hs3 hml (fun j hj=>(h.nH.gw.gb i hi).side hs3 hj)).mono ?_
   rintro e w' ⟨v,rfl,ys,hy,hlv,hb⟩
   obtain⟨b1,b2⟩:=h.nH.book (by omega) hi hs3 hy
   exact⟨v,_,0,rfl,hlv,ag.of_below hb,.inr (.inr ⟨rfl,hx,hs2,b1,b2⟩)⟩
theorem Pn{x:Pr}{w:World}(h:jA w x)(hN:x.N<2000000){sym:ByteArray}{side:Int}{ls:List fJ}{E:Int}(hb:Bv x.S sym side ls E):Calls Tryz.prog 102 #[.pointer (some ⟨x.rb,0,none⟩),.string sym,.int .i64 side] w fun e w'=>∃v,e=.returned (.tuple #[v,.int .i64 E])∧w'.ownsRow w.heap.size 93 3 v ls.length (flat ls)∧ag ak w w':=by
 have hlen:x.S.l.length≤1000:=by have:=h.nH.no;have:=h.nH.eF;omega
 have hsy:x.S.sy.length≤1000:=by have:=h.nH.nb;have:=h.nH.OZ;omega
 have hA:=h.aN
 rcases hb with⟨rfl,rfl,h1⟩ | ⟨rfl,rfl,h1,h2⟩ | ⟨rfl,h1,h2 | h2,h3,h4⟩
 ·refine (zI 0 x.rb x.A x.R x.L x.av x.rv x.S sym side w h.doc h.hist (by omega) hsy h1).mono ?_
  rintro e w' ⟨rfl,k⟩
  exact⟨_,rfl,World.ownsRow_nil _ _ _ _,k⟩
 ·refine (FZ 0 x.rb x.A x.R x.L x.av x.rv x.S sym side w h.doc h.hist (by omega) hsy h1 h2).mono ?_
  rintro e w' ⟨rfl,k⟩
  exact⟨_,rfl,World.ownsRow_nil _ _ _ _,k⟩
 ·subst h2
  exact LX 0 x.rb ls.length x.A x.R x.L x.av x.rv x.S sym ls w h.doc h.hist (by omega) hlen hsy h1 h3 (by omega)
 ·subst h2
  exact IV 0 x.rb ls.length x.A x.R x.L x.av x.rv x.S sym ls w h.doc h.hist (by omega) hlen hsy h1 h3 (by omega)
end Go.Proofs.YtigaphnafnpfnaaGreatDoor
