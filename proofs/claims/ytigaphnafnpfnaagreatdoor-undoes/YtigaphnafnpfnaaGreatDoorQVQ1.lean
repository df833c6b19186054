import Derived.Test.YtigaphnafnpfnaaGreatDoorQVD2
import Derived.Test.YtigaphnafnpfnaaGreatDoorQVX16
import Derived.Test.YtigaphnafnpfnaaGreatDoorQVX26
import Derived.Test.YtigaphnafnpfnaaGreatDoorQVX27
import Derived.ArgAppend
import Derived.Deep.DeepAppendRoom
set_option linter.unusedVariables false
set_option linter.unusedSimpArgs false
namespace Go.Proofs.YtigaphnafnpfnaaGreatDoor
open Go.RowKit Go.Maps
theorem XX(s:ByteArray)(i:Nat):(sH s i).2<=2:=by
 unfold sH;split
 ·simp
 ·split <;> simp
theorem Aq(s:ByteArray):∀a i n,mr s a i n=true->n<=6/\s.size<=i+2 * (6-n)
 | 0,i,n,h=>by simp[mr]at h
 | a+1,i,n,h=>by
   unfold mr at h;split at h
   ·split at h
    ·have:=Aq s a _ _ h;have b:=XX s i;omega
    ·simp at h
   ·simp at h;omega
theorem Oy{s:ByteArray}(h:lL s=true):s.size<=12:=by
 have:=Aq s _ _ _ h;omega
def Rx:iR:=⟨0,0,⟨#[]⟩,0,0,0,0⟩
def CJ(s:ByteArray):bD:=⟨108,s,Rx,0,0,0,false⟩
def Ei(o:iR):bD:=⟨101,⟨#[]⟩,o,0,0,0,false⟩
def uq(a:Int):bD:=⟨99,⟨#[]⟩,Rx,a,0,0,false⟩
def eU(a b c:Int):bD:=⟨114,⟨#[]⟩,Rx,a,b,c,false⟩
def yA(x:bD):Prop:=∃ln,(∀W,CT 139 #[x.val] W fun e w'=>e=.returned (.string ln)/\aj aA W w')/\ln.size<=300
def TJ(bv bm bo:Nat)(V:aS)(p:Nat->Nat)(S:RS)(N:Nat)(x:bD)(f r n a c E:Int)(w w':World):Prop :=
 (E≠0/\aj aA w w'/\∃S',jP S x S' (dm f r n a c) E) \/
 (E=0/\yA x/\Next bv bm bo V (fun V'=>∃S' p',di p' V' S' (N+1)/\V'.lg.tp=nJ V.lg.tp S'.told/\jP S x S' (dm f r n a c) 0/\S'.told.length<=201/\vG V'/\Bz bv bm bo V V' (lY S.t S'.told) w.heap.size w'/\pW S.t S'.told) w w')
theorem Ku{s:ByteArray}(hs:s.size<=100):yA (CJ s):=by
 refine⟨_,fun a=>Lj s 0 0 ⟨#[]⟩ 0 0 0 0 0 0 0 false a (by omega),?_⟩;rw[ByteArray.size_append];show 5+s.size<=300;omega
theorem xM{n:Int}(h:cZ n=true):qh n:=by simp[cZ] at h;exact ⟨by omega,by omega⟩
theorem ER{a:Int}(h:qh a):yA (uq a):=by
 refine⟨_,fun b=>FC ⟨#[]⟩ 0 0 ⟨#[]⟩ 0 0 0 0 a 0 0 false b h,?_⟩;rw[ByteArray.size_append];have:=(dH a h).2;show 7+(jR a).size<=300;omega
theorem RU(bv bm bo N:Nat)(V:aS)(p:Nat->Nat)(S:RS)(s:ByteArray)(w:World)(R:dL w bv bm bo V)(h:di p V S N)(M:N<2900000)(n:vG V)(hs:s.size<=1000000000) :
 CT 27 #[PP bv,.string s] w fun e w'=>∃C,e=.returned (II C)/\TJ bv bm bo V p S N (CJ s) 0 0 0 0 0 C w w':=by
 have z:s.size<=maxLen:=by unfold maxLen;omega
 have f:=JZ s hs;have Q:=h.nb;have L:=h.Pn;have E:S.sy.length<=1000:=by omega
 have l:rQ S.sy s≠0->∃S',jP S (CJ s) S' (dm 0 0 0 0 0) (rQ S.sy s):=fun G =>
  ⟨S.fresh,fun base A m r y=>AQ base A S m (CJ s) r y rfl hs E G⟩
 rcases vO S.sy s with⟨d,c⟩ | ⟨d,c,o⟩ | ⟨d,c,o,v⟩ | ⟨d,c,o,v⟩
 ·rw[c]at l;rw[d]at f;refine (Ou bv s w f).mono ?_;rintro e w' ⟨rfl,k⟩;exact⟨3,rfl,.inl ⟨by decide,k,l (by decide)⟩⟩
 ·rw[o]at l;rw[d]at f;obtain⟨i,j,J⟩:=(h.uj s).1 c;refine (Kw bv bm bo i V s w R f z j J).mono ?_;rintro e w' ⟨rfl,k⟩;exact⟨2,rfl,.inl ⟨by decide,k,l (by decide)⟩⟩
 ·rw[v]at l;rw[d]at f;have q:∀i,i<V.nb->(V.B i).sym≠s:=fun i j e=>by rw[(h.uj s).2 ⟨i,j,e⟩]at c;exact absurd c (by decide)
  simp only[ge_iff_le,decide_eq_true_eq]at o;refine (Kv bv bm bo V s w R f z q (by omega)).mono ?_;rintro e w' ⟨rfl,k⟩;exact⟨7,rfl,.inl ⟨by decide,k,l (by decide)⟩⟩
 ·rw[d]at f;have q:∀i,i<V.nb->(V.B i).sym≠s:=fun i j e=>by rw[(h.uj s).2 ⟨i,j,e⟩]at c;exact absurd c (by decide)
  simp only[ge_iff_le,decide_eq_false_iff_not]at o;have U:=Oy d;have P:=h.zu;obtain⟨ol,T,I⟩:=h.ol;have X:=h.xk;refine (XR bv bm bo V s w (Gs V) R f (by omega) q (by omega) (by omega)).mono ?_;rintro e w' ⟨b,bG,rfl,O,D,k,H,K,F⟩;refine⟨0,rfl,.inr ⟨rfl,Ku (by omega),_,D,⟨S.fresh.lists s,p,h.bU q (by omega),rfl,fun base A m r y=>Lc base A S m (CJ s) r y rfl hs E v,by show 0<=201;omega,?_,Qi R I (by omega) (by omega) z D F,pW.nil⟩,k.mono (fun x a=>?_),fun x a=>?_⟩⟩
  ·refine⟨?_,n.fl,n.sy,n.tp,n.nm,n.dy⟩;intro i j;by_cases e:i<V.nb
   ·have:(V.bU s b bG).B i=V.B i:=ag _ _ (by omega);rw[this];exact n.sz i e
   ·have g:i=V.nb:=by have:(V.bU s b bG).nb=V.nb+1:=rfl;omega
    subst g;have:(V.bU s b bG).B V.nb=mD s:=ah _ _ _;rw[this];show s.size<=100;omega
  ·rcases a with a | a | a
   ·exact .inr (.inl a)
   ·exact .inl a
   ·exact vk a
  ·rcases a with a | a | a | ⟨i,j,a⟩ | a | a
   ·exact .inl (.inl a)
   ·exact .inl (.inr (.inl a))
   ·exact .inl (jL a)
   ·by_cases e:i<V.nb
    ·have u:(V.bU s b bG).B i=V.B i:=ag _ _ (by omega);have g:(V.bU s b bG).bk i=V.bk i:=ag _ _ (by omega);rw[u,g]at a;exact .inl (iQ ⟨i,e,a⟩)
    ·have g:i=V.nb:=by have:(V.bU s b bG).nb=V.nb+1:=rfl;omega
     subst g;have u:(V.bU s b bG).B V.nb=mD s:=ah _ _ _;have g:(V.bU s b bG).bk V.nb=b:=ah _ _ _;rw[u,g]at a;rcases a with a | ⟨t,W,a⟩
     ·right;omega
     ·exact absurd a (wS s t x)
   ·exact .inl (qo a)
   ·exact (H x a).imp_left (fun h=>vk h)
section
variable {p : Nat -> Nat} {V : aS} {S : RS} {N : Nat}
theorem di.open(h:di p V S N){x:Nat}(a:VL V x)(h0:(V.om x).aH≠0):∃i s k:Nat,i<V.nb/\s<2/\k<(V.B i).n s/\(V.B i).h s k=x/\(V.om x).sym=(V.B i).sym/\(V.om x).side=(s:Int):=by
 obtain⟨i,c,e⟩:=h.gw.sym x a;obtain⟨s,hs,b⟩:∃s:Nat,s<2/\(V.om x).side=(s:Int):=by
  rcases h.gw.side x a with e | e
  ·exact⟨0,by omega,e⟩
  ·exact⟨1,by omega,e⟩
 have g:0<(V.om x).aH:=by have:=(h.gw.q x a).o0;omega
 obtain⟨k,f,d⟩:=((h.gw.gb i c).mem s hs x).2 ⟨a,e,b,g⟩;exact⟨i,s,k,c,hs,f,d.symm,e,b⟩
theorem di.apart(h:di p V S N){w:World}{bv bm bo:Nat}(R:dL w bv bm bo V){i x:Nat}(n:VL V x)(hs:(V.om x).sym=(V.B i).sym)(c:i<V.nb):pV V i x:=by
 intro j a g t b m;rcases m with e | ⟨l,f,e⟩
 ·obtain⟨id,d⟩:=n;obtain⟨_,o,k⟩:=R.bg id x d;exact ((R.aW j a).side t b).ne k (by decide) e
 ·have:=((h.gw.gb j a).mem t b _).1 ⟨l,f,rfl⟩;rw[<-e,hs]at this;exact g (h.gw.mW i j c a this.2.1).symm
theorem di.gp(h:di p V S N)(id:Int):(V.aV id=none/\gp S.l id=6)\/∃j,iU S.l id=some j/\j<S.l.length/\V.aV id=some (p j)/\(((V.om (p j)).aH=0/\gp S.l id=10)\/((V.om (p j)).aH≠0/\(ak S.l j).aH≠0/\gp S.l id=0)):=by
 have a:=h.found id;unfold Go.Proofs.YtigaphnafnpfnaaGreatDoor.gp;cases hx:iU S.l id with
 | none=>left;rw[hx]at a;exact⟨a,rfl⟩
 | some j =>
   right;rw[hx]at a;have b:=(jC hx).1;have e:=(fC (h.same j b)).2.2.2.2.2.2.2.2.1;refine⟨j,rfl,b,a,?_⟩;by_cases h0:(ak S.l j).aH=0
   ·left;rw[e];simp[h0]
   ·right;rw[e];simp[h0]
end
theorem vG.turn{V:aS}(h:vG V){i:Nat}{B':Bk}{dG:Nat->Ord}{G':Lg}{bG:Lm}(hs:B'.sym=(V.B i).sym)(d:∀x,(dG x).sym=(V.om x).sym/\(dG x).side=(V.om x).side/\(dG x).id=(V.om x).id/\(dG x).filled=(V.om x).filled)(a:G'.tr=V.lg.tr)(b:G'.tp=V.lg.tp)(c:G'.day=V.lg.day):vG (V.lS i B' dG G' bG):=by
 refine h.of rfl (fun j=>?_) rfl d a b c;show (aK V.B i B' j).sym=_;by_cases e:j=i
 ·rw[e,ah,hs]
 ·rw[ag _ _ e]
theorem Jn{om:Nat->Ord}{b:Nat}{o':Ord}(h:o'.sym=(om b).sym/\o'.side=(om b).side/\o'.id=(om b).id/\o'.filled=(om b).filled)(x:Nat):(aK om b o' x).sym=(om x).sym/\(aK om b o' x).side=(om x).side/\(aK om b o' x).id=(om x).id/\(aK om b o' x).filled=(om x).filled:=by
 by_cases e:x=b
 ·rw[e,ah];exact h
 ·rw[ag _ _ e];exact⟨rfl,rfl,rfl,rfl⟩
theorem KO(bv bm bo N:Nat)(V:aS)(p:Nat->Nat)(S:RS)(id:Int)(w:World)(R:dL w bv bm bo V)(P:qj w)(h:di p V S N)(O:N<2900000)(I:vG V)(C:(Lit.int .i64 id).wf=true) :
 CT 37 #[PP bv,II id] w fun e w'=>∃E,e=.returned (II E)/\TJ bv bm bo V p S N (uq id) 0 0 0 0 0 E w w':=by
 have H:S.l.length<=1000:=by have:=h.no;have:=h.fM;omega
 have v:gp S.l id≠0->∃S',jP S (uq id) S' (dm 0 0 0 0 0) (gp S.l id):=fun Q =>
  ⟨S.fresh,fun base D m y A=>xY base D S m (uq id) y A rfl H Q⟩
 rcases h.gp id with⟨q,r⟩ | ⟨j,q,r,u,⟨g,F⟩ | ⟨g,M,F⟩⟩
 ·rw[r]at v;refine (zS bv bm bo V id w R C q).mono ?_;rintro e w' ⟨rfl,k⟩;exact⟨6,rfl,.inl ⟨by decide,k,v (by decide)⟩⟩
 ·rw[F]at v;refine (BD bv bm bo (p j) V id w R C u g).mono ?_;rintro e w' ⟨rfl,k⟩;exact⟨10,rfl,.inl ⟨by decide,k,v (by decide)⟩⟩
 ·have z:VL V (p j):=⟨id,u⟩;obtain⟨i,s,k,d,hs,f,G,a,c⟩:=h.open z g;have W:(ak S.l j).id=id:=(jC q).2;have U:qh id:=xM (by rw[<-W];exact h.xx j r);rw[<-G]at u g a c z;obtain⟨ol,hol,hov⟩:=h.ol;have xk:=h.xk;refine (P8 bv bm bo i s k V id w (Gs V) (uw h.gw d hs f) R P C d hs f u g c a (by have:=I.sz i d;unfold maxLen;omega) (by have:=h.zu;omega)).mono ?_;rintro e w' ⟨rfl,Z,⟨bG,n,T,cl,K⟩,kc⟩;refine⟨0,rfl,.inr ⟨rfl,ER U,Next.with (Next.of R d _ Z n T kc (fun x b=>?_) (fun j X hne t o l n=>?_) (fun x=>?_) rfl (fun t o x b=>?_) rfl) (fun J=>⟨S.fresh.oU j,p,h.oU (ds:=[.left ((V.B i).h s k),.fV ((V.B i).h s k) (V.om ((V.B i).h s k))]) O d hs f r G.symm,rfl,fun base D m y A=>Fh base D j S m (uq id) y A rfl H q M,by show 0<=201;omega,I.turn rfl (Jn ⟨rfl,rfl,rfl,rfl⟩) rfl rfl rfl,JO R h.gw hov (by omega) (by omega) d hs f (uw h.gw d hs f) J K,pW.nil⟩)⟩⟩
  ·rcases b with b | b | b | b
   ·exact .inl b
   ·exact .inr (.inl b)
   ·exact jL b
   ·exact iQ ⟨s,hs,b⟩
  ·refine ag _ _ (fun e=>h.apart R z a d j X hne t o ?_);rw[<-e];exact .inr ⟨l,n,rfl⟩
  ·by_cases e:x=(V.B i).h s k
   ·rw[e,ah];rfl
   ·rw[ag _ _ e]
  ·left;by_cases e:t=s
   ·subst e;refine⟨t,o,?_⟩;rcases b with b | ⟨l,n,b⟩
    ·exact .inl b
    ·obtain⟨k',Y,L,_⟩:=pz (om:=V.om) ((h.gw.gb i d).inj t o) f l n;exact .inr ⟨k',Y,by rw[b,L]⟩
   ·refine⟨t,o,?_⟩;unfold dn at b ⊢;simp only[Bk.leave,ag _ _ e]at b;exact b
theorem BQ{a b c:Int}(d:qh a)(e:qh b)(f:qh c):yA (eU a b c):=by
 refine⟨_,fun g=>Ce ⟨#[]⟩ 0 0 ⟨#[]⟩ 0 0 0 0 a b c false g d e f,?_⟩;have i:=(dH a d).2;have z2:=(dH b e).2;have z3:=(dH c f).2
 (repeat rw[ByteArray.size_append])
 show 8+(jR a).size+1+(jR b).size+1+(jR c).size<=300;omega
theorem Iu(bv bm bo N:Nat)(V:aS)(p:Nat->Nat)(S:RS)(id af az:Int)(w:World)(R:dL w bv bm bo V)(hT:qj w)(h:di p V S N)(hN:N<2900000)(hz:vG V)(hwf:(Lit.int .i64 id).wf=true) :
 CT 38 #[PP bv,II id,II af,II az] w fun e w'=>∃X r n a c E,e=.returned (.tuple #[dm X r n a c,II E])/\TJ bv bm bo V p S N (eU id af az) X r n a c E w w':=by
 have hlen:S.l.length<=1000:=by have:=h.no;have:=h.fM;omega
 have xk:=h.xk;have zA:=h.zA;have zu:=h.zu;have no2:=h.fM;rcases h.gp id with⟨A,L⟩ | ⟨j,A,L,Y,⟨P,h5⟩ | ⟨P,h4',h5⟩⟩
 ·have J:jP S (eU id af az) S.fresh (dm 0 0 0 0 0) 6:=fun base o m W I=>lh base o S S.fresh m (eU id af az) 0 0 0 0 0 6 W I rfl (fun G m' hW'=>by
   have:=wZ base o S.fresh m' (eU id af az) G hW' hlen (by show gp S.l id≠0;rw[L];decide);rw[show gp S.fresh.l (eU id af az).a=6 from L]at this;exact this.mono (fun e w' ⟨A,k⟩=>⟨A,(iZ.refl hW').ext k⟩))
  refine (zf bv bm bo V id af az w R hwf A).mono ?_;rintro e w' ⟨rfl,k⟩;exact⟨0,0,0,0,0,6,rfl,.inl ⟨by decide,k,_,J⟩⟩
 ·have J:jP S (eU id af az) S.fresh (dm 0 0 0 0 0) 10:=fun base o m W I=>lh base o S S.fresh m (eU id af az) 0 0 0 0 0 10 W I rfl (fun G m' hW'=>by
   have:=wZ base o S.fresh m' (eU id af az) G hW' hlen (by show gp S.l id≠0;rw[h5];decide);rw[show gp S.fresh.l (eU id af az).a=10 from h5]at this;exact this.mono (fun e w' ⟨A,k⟩=>⟨A,(iZ.refl hW').ext k⟩))
  refine (AY bv bm bo (p j) V id af az w R hwf Y P).mono ?_;rintro e w' ⟨rfl,k⟩;exact⟨0,0,0,0,0,10,rfl,.inl ⟨by decide,k,_,J⟩⟩
 ·by_cases hnum:cZ af=true/\cZ az=true
  ·obtain⟨hp,U⟩:=hnum;have D:1<=az/\az<=1000000:=by simpa [cZ] using U
   have H:VL V (p j):=⟨id,Y⟩;obtain⟨i,t,k,d,ht,K,T,a,c⟩:=h.open H P;have Z:=h.apart R H a d;have hid:(ak S.l j).id=id:=(jC A).2;have Xx:cZ id=true:=by rw[<-hid];exact h.xx j L
   have hln:=BQ (xM Xx) (xM hp) (xM U);obtain⟨e1,e2,e3,e4,e5,e6,e7,e8,e9,e10,e11,e12⟩:=fC (h.same j L);have h00:=(h.gw.q _ H).o0;obtain⟨ol,hol,hov⟩:=h.ol;by_cases O:af=(V.om (p j)).af/\az<=(V.om (p j)).aH
   ·refine (AZ bv bm bo (p j) i V id af az w (Gs V) R hT hwf Y P hp U d O.1 O.2 (by omega)).mono ?_;rintro e w' ⟨rfl,hm,⟨bG,z,hf,cl,cu⟩,kc⟩;have J:jP S (eU id af az) (S.fresh.dN j (Lh (ak S.l j) az)) (dm 0 az 0 0 0) 0:=fun base o m W I=>lh base o S _ m (eU id af az) 0 az 0 0 0 0 W I rfl (fun G m' hW' =>
     Ci base o j S.fresh m' (eU id af az) G hW' hlen A h4' hp U (by show af=(ak S.l j).af;rw[<-e6];exact O.1) (by show az<=(ak S.l j).aH;rw[<-e9];exact O.2))
    refine⟨0,az,0,0,0,0,rfl,.inr ⟨rfl,hln,Next.with (Next.of R d _ hm z hf kc (fun x b=>?_) (fun j' hj' hne f C l z=>?_) (fun x=>?_) rfl (fun f C x b=>.inl ⟨f,C,b⟩) rfl) (fun R'=>⟨_,p,h.keeps (i:=i) (ds:=[.fV (p j) (V.om (p j))]) hN L O.1 D.1 D.2 (by omega),rfl,J,by show 0<=201;omega,hz.turn rfl (Jn ⟨rfl,rfl,rfl,rfl⟩) rfl rfl rfl,Qh R hov (by omega) (by omega) H O.1 R' cu,pW.nil⟩)⟩⟩
    ·rcases b with b | b | b
     ·exact .inl b
     ·exact .inr (.inl b)
     ·exact .inr (.inr (.inr (.inr ⟨by rw[b];exact H,by rw[b];exact Z⟩)))
    ·refine ag _ _ (fun e=>Z j' hj' hne f C ?_);rw[<-e];exact .inr ⟨l,z,rfl⟩
    ·by_cases e:x=p j
     ·rw[e,ah];rfl
     ·rw[ag _ _ e]
   ·obtain⟨s,hs,hts⟩:∃s,s<2/\t=1-s:=⟨1-t,by omega,by omega⟩;have hcn:=h.count d ht;have hcs:=h.count d hs;have iv:=(h.qZ (g:=0) (cap':=0) (bG:=V.lm) (af:=af) hN d hs hts K L T D.1 D.2).1;refine (AX bv bm bo (p j) i s t k V id af az w (Gs V) (fun y hy l z=>uw h.gw d hy z) R hT hwf Y P hp U d a (by have:=hz.sz i d;unfold maxLen;omega) hs hts K T c O iv (by omega) (by omega) (by omega) (by omega) (by omega)).mono ?_;rintro e w' ⟨v,w3,yX,rfl,k3,hf3,w4,⟨hv,g,cap',bG,hm,z,hf,k4,hg,ext,cl,cu,hsg⟩,hr4,k5⟩;obtain⟨_,c',X,hEn,aad,QL,hrep,htp,htold⟩:=h.qZ (g:=g) (cap':=cap') (bG:=bG) (af:=af) hN d hs hts K L T D.1 D.2;obtain⟨gv,run,ivz,hBs,_⟩:=h.gw.qZ (g:=g) (cap':=cap') (bG:=bG) (rU (Nat.le_add_right N 1)) (by unfold mN;omega) d hs hts K T (o':=dR (V.om (p j)) af az) rfl rfl (Fp (M':=mN (N+1)) (h.gw.q _ H) (by unfold mN;push_cast;omega) (by unfold mN;omega) D.1 D.2).1;obtain⟨rf,rr,rn,ra,rk,Oj⟩:=wY j c';have J:jP S (eU id af az) (qV j c') (dm rf rr rn ra rk) 0:=fun base o m W I=>lh base o S _ m (eU id af az) rf rr rn ra rk 0 W I rfl (fun G m' hW'=>by
     have htl:S.fresh.t.length=V.lg.tr.length:=by rw[h.tr];rfl
     have:=Cf base o j X S.fresh m' (eU id af az) c' G hW' hlen A h4' hp U (by rintro⟨x1,x2⟩;exact O ⟨by rw[e6];exact x1,by rw[e9];exact x2⟩) hEn (by rw[htl];omega) (by show 0+X<_;omega);rw[Oj]at this;exact this)
    refine⟨rf,rr,rn,ra,rk,0,?_,.inr ⟨rfl,hln,?_⟩⟩
    ·rw[<-Oj,<-hrep,hv];simp only[ah]
     rfl
    have sz3:=k3.size;have SQ:∀y,y<2->∀x,dn ((V.B i).leave V.om t k) y x->dn (V.B i) y x:=fun y hy x b=>by
     by_cases e:y=t
     ·subst e;rcases b with b | ⟨l,z,b⟩
      ·exact .inl b
      ·obtain⟨k',hk',e',_⟩:=pz (om:=V.om) ((h.gw.gb i d).inj y hy) K l z;exact .inr ⟨k',hk',by rw[b,e']⟩
     ·unfold dn at b ⊢;simp only[Bk.leave,ag _ _ e]at b;exact b
    obtain⟨f1,f2,f3,f4,f5⟩:=jB (p j) s (mu (p j) s ⟨(V.B i).leave V.om t k,aK V.om (p j) (dR (V.om (p j)) af az),V.lg.dE (p j) (V.om (p j))⟩) ⟨(V.B i).leave V.om t k,aK V.om (p j) (dR (V.om (p j)) af az),V.lg.dE (p j) (V.om (p j))⟩;have kk:aj (fun x=>x=bv\/V.lm.F x\/x=V.bk i\/x=p j\/dn (V.B i) s x\/dn (V.B i) t x) w w4:=by
     refine (k3.mono (fun x b=>?_)).from (k4.mono (fun x b=>?_))
     ·rcases b with b | b | b | b | b
      ·exact .inl b
      ·exact .inr (.inl b)
      ·exact jL b
      ·exact iQ b
      ·exact vk b
     ·rcases b with b | b | b | b | b | b
      ·exact .inl (.inl b)
      ·exact (hf3 x b).imp_left (fun h=>.inr (.inl h))
      ·exact .inl (jL b)
      ·exact .inl (iQ b)
      ·exact .inl (qo (SQ s hs x b))
      ·exact .inl (vk (SQ t ht x b))
    have oH:∀x,qi (aK V.om (p j) (dR (V.om (p j)) af az) x) ((mF (p j) s ⟨(V.B i).leave V.om t k,aK V.om (p j) (dR (V.om (p j)) af az),V.lg.dE (p j) (V.om (p j))⟩).om x):=run.oH;have FZ:=run.FZ;have hN':=Next.with (Q:=fun V'=>∃S' p',di p' V' S' (N+1)/\V'.lg.tp=nJ V.lg.tp S'.told/\jP S (eU id af az) S' (dm rf rr rn ra rk) 0/\S'.told.length<=201/\vG V'/\Bz bv bm bo V V' (lY S.t S'.told) w.heap.size w4/\pW S.t S'.told) (Next.of R d _ hm z (fun x b=>(hf x b).elim (fun h=>hf3 x h) (fun h=>.inr (Nat.le_trans sz3 h))) kk (fun x b=>?_) (fun j' hj' hne f C l z=>?_) (fun x=>?_) ?_ (fun f C x b=>?_) rfl) (fun R'=>⟨qV j c',p,QL,htp,J,htold,hz.qZ h.gw (rU (Nat.le_add_right N 1)) (by unfold mN;omega) d hs hts K T rfl rfl rfl rfl (Fp (M':=mN (N+1)) (h.gw.q _ H) (by unfold mN;push_cast;omega) (by unfold mN;omega) D.1 D.2).1 ivz hBs,?_⟩)
    ·exact (hN'.QV hr4 (Nat.le_refl _) k5).mono (fun V2 ⟨S',p',a1,a2,a3,a4,a5,a6,a7⟩=>⟨S',p',a1,a2,a3,a4,a5,a6.QV hr4 k5,a7⟩)
    ·rcases b with b | b | b | b | b | b
     ·exact .inl b
     ·exact .inr (.inl b)
     ·exact jL b
     ·exact .inr (.inr (.inr (.inr ⟨by rw[b];exact H,by rw[b];exact Z⟩)))
     ·exact iQ ⟨s,hs,b⟩
     ·exact iQ ⟨t,ht,b⟩
    ·have hne2:(V.B j').h f l≠p j:=fun e=>Z j' hj' hne f C (by rw[<-e];exact .inr ⟨l,z,rfl⟩)
     rw[ru _ _ hne2,FZ _ hne2 (fun hmm=>?_)]
     ·exact ag _ _ hne2
     ·obtain⟨k2,hk2,e2⟩:=hmm;have hsd:dn (V.B i) s ((V.B j').h f l):=SQ s hs _ (.inr ⟨k2,hk2,e2⟩);exact R.nX i j' d hj' (fun e=>hne e.symm) s f hs C _ hsd (.inr ⟨l,z,rfl⟩)
    ·rw[xK];rw[(oH x).1];by_cases e:x=p j
     ·rw[e,ah];rfl
     ·rw[ag _ _ e]
    ·rw[qF];exact f4
    ·rcases zT b with b | b | b
     ·left;by_cases es:f=s
      ·subst es;refine⟨f,C,SQ f C x ?_⟩;exact (xU _ _ iv).2.2.1 x b
      ·refine⟨f,C,SQ f C x ?_⟩;unfold dn mF at b;rw[f2,(f1 f es).1,(f1 f es).2]at b;exact b
     ·exact .inr (.inl ⟨by rw[b];exact H,by rw[b];exact Z⟩)
     ·rcases hg with hg | hg
      ·exact .inl ⟨t,ht,.inl (by rw[b];exact hg)⟩
      ·right;right;omega
    ·have ab1:(mF (p j) s ⟨(V.B i).leave V.om t k,aK V.om (p j) (dR (V.om (p j)) af az),V.lg.dE (p j) (V.om (p j))⟩).lg.tr.length<=_:=QL.xk;have hpb:=h.KQ i d;obtain⟨did,tn⟩:=Qg (M:=mN N) R h.gw hov (by omega) d hs ht (by omega) K T (by omega) iv (by omega) (fun u hu k K=>uw h.gw d hu K) hpb.1 (by omega) R' cu hsg _ rfl;rw[tn.lY htp];exact⟨did,tn.ok htp⟩
  ·have hr:cZ af=false\/(cZ af=true/\cZ az=false):=by
    cases h6:cZ af
    ·exact .inl rfl
    ·right;refine⟨rfl,?_⟩;cases h7:cZ az
     ·rfl
     ·exact absurd ⟨h6,h7⟩ hnum
   have J:jP S (eU id af az) S.fresh (dm 0 0 0 0 0) 4:=fun base o m W I=>lh base o S S.fresh m (eU id af az) 0 0 0 0 0 4 W I rfl (fun G m' hW'=>by
    have:=A8 base o S.fresh m' (eU id af az) G hW' hlen h5 (hr.imp_right (fun x=>x.2));exact this.mono (fun e w' ⟨A,k⟩=>⟨A,(iZ.refl hW').ext k⟩))
   refine (Cb bv bm bo (p j) V id af az w R hwf Y P hr).mono ?_;rintro e w' ⟨rfl,k⟩;exact⟨0,0,0,0,0,4,rfl,.inl ⟨by decide,k,_,J⟩⟩
theorem aaU(a b c d e f g h i j k l m n:ByteArray):(a++b++c++d++e++f++g++h++i++j++k++l++m++n).size=a.size+b.size+c.size+d.size+e.size+f.size+g.size+h.size+i.size+j.size+k.size+l.size+m.size+n.size:=by
 simp only[ByteArray.size_append]
theorem Ie{o:iR}(a:qh o.id)(b:qh o.aG)(c:qh o.side)(d:qh o.kind)(e:qh o.af)(f:qh o.az)(hs:o.sym.size<=100):yA (Ei o):=by
 refine⟨_,fun g=>IX ⟨#[]⟩ o.id o.aG o.sym o.side o.kind o.af o.az 0 0 0 false g a b c d e f (by omega),?_⟩;have i:=(dH _ a).2;have z2:=(dH _ b).2;have z3:=(dH _ c).2;have z4:=(dH _ d).2;have z5:=(dH _ e).2;have j:=(dH _ f).2;unfold Ib;rw[aaU];show 6+(jR o.id).size+1+(jR o.aG).size+1+o.sym.size+1+(jR o.side).size+1+(jR o.kind).size+1+(jR o.af).size+1+(jR o.az).size<=300;omega
theorem di.aaN{p:Nat->Nat}{V:aS}{S:RS}{N:Nat}(h:di p V S N)(o:iR):pJ S o=dw o (V.aV o.id).isSome (jO S.sy o.sym) (decide (200<=V.no)) (eP S.l o).isSome (decide (kY S.l o S.l.length<o.az)):=by
 unfold pJ;rw[h.found o.id,h.no];congr 1;cases iU S.l o.id <;> rfl
theorem IQ{p:Nat->Nat}{V:aS}{S:RS}{N:Nat}(bv bm bo:Nat)(h:di p V S N)(H:N<2900000)(o:iR)(n:o.sym.size<=maxLen)(C:(Lit.int .i64 o.id).wf=true)(a:World)(R:dL a bv bm bo V) :
 CT 111 #[PP bv,o.val] a fun e w'=>e=.returned (II (pJ S o))/\aj aA a w':=by
 have G:mN N<=1000000000000000:=by unfold mN;omega
 rw[h.aaN o];have F:(jO S.sy o.sym=true/\∃i,i<V.nb/\(V.B i).sym=o.sym)\/(jO S.sy o.sym=false/\∀i,i<V.nb->(V.B i).sym≠o.sym):=by
  cases hx:jO S.sy o.sym
  ·right;refine⟨rfl,fun i d e=>?_⟩;rw[(h.uj _).2 ⟨i,d,e⟩]at hx;exact absurd hx (by decide)
  ·left;exact⟨rfl,(h.uj _).1 hx⟩
 have b:jO S.sy o.sym=false\/200<=V.no\/dw o (V.aV o.id).isSome (jO S.sy o.sym) (decide (200<=V.no)) (eP S.l o).isSome (decide (kY S.l o S.l.length<o.az))≠(if o.kind=4/\(eP S.l o).isSome=true then 8 else if o.kind=3/\decide (kY S.l o S.l.length<o.az)=true then 9 else 0) ->
  CT 111 #[PP bv,o.val] a fun e w'=>e=.returned (II (dw o (V.aV o.id).isSome (jO S.sy o.sym) (decide (200<=V.no)) (eP S.l o).isSome (decide (kY S.l o S.l.length<o.az))))/\aj aA a w' :=
  fun A=>BX bv bm bo V o a R n C _ _ _ F A
 have f:∀(k:Int),(k=1\/k=2\/k=4\/k=5)->k≠(if o.kind=4/\(eP S.l o).isSome=true then 8 else if o.kind=3/\decide (kY S.l o S.l.length<o.az)=true then 9 else 0):=by
  intro k v;split
  ·omega
  ·split <;> omega
 rcases sZ o (V.aV o.id).isSome (jO S.sy o.sym) (decide (200<=V.no)) (eP S.l o).isSome (decide (kY S.l o S.l.length<o.az)) with⟨_,e⟩ | ⟨_,_,e⟩ | ⟨g1,g2,⟨_,e⟩ | ⟨_,_,e⟩ | ⟨g3,g4,⟨_,e⟩ | ⟨g5,⟨_,e⟩ | ⟨_,_,e⟩ | ⟨g6,g7,⟨g8,e⟩ | ⟨g8,g9,e⟩ | ⟨g8,g9,e⟩⟩⟩⟩⟩
 ·exact b (.inr (.inr (by rw[e];exact f 1 (by omega))))
 ·exact b (.inr (.inr (by rw[e];exact f 2 (by omega))))
 ·exact b (.inr (.inr (by rw[e];exact f 4 (by omega))))
 ·exact b (.inr (.inr (by rw[e];exact f 4 (by omega))))
 ·exact b (.inr (.inr (by rw[e];exact f 5 (by omega))))
 ·exact b (.inr (.inr (by rw[e];exact f 4 (by omega))))
 ·exact b (.inr (.inr (by rw[e];exact f 4 (by omega))))
 ·exact b (.inl g8)
 ·exact b (.inr (.inl (by simpa using g9)))
 ·rw[e];have r:V.aV o.id=none:=by simpa using g2
  have u:V.no<200:=by simp at g9;omega
  obtain⟨i,d,j⟩:=(h.uj _).1 g8;have E:o.side=0\/o.side=1:=by
   unfold jH at g4;simp at g4;exact g4
  obtain⟨t,I,y⟩:∃t:Nat,t<2/\o.side=(t:Int):=by
   rcases E with e | e
   ·exact⟨0,by omega,e⟩
   ·exact⟨1,by omega,e⟩
  obtain⟨s,hs,z⟩:∃s,s<2/\t=1-s:=⟨1-t,by omega,by omega⟩;have w:o.side=1-(s:Int):=by omega
  by_cases g:o.kind=4
  ·have:=Fj bv bm bo i s V o a R d j n g1 r g3 g4 g5 g6 g7 u g hs w;rw[h.qG d hs z j.symm y]at this;rw[show (if o.kind=4/\(eP S.l o).isSome=true then (8:Int) else if o.kind=3/\decide (kY S.l o S.l.length<o.az)=true then 9 else 0)=if (eP S.l o).isSome=true then 8 else 0 by
    by_cases c:(eP S.l o).isSome=true
    ·rw[if_pos ⟨g,c⟩,if_pos c]
    ·rw[if_neg (fun x=>c x.2),if_neg (fun x=>by omega),if_neg c]]
   exact this
  ·by_cases m:o.kind=3
   ·have:=BZ bv bm bo i s V o a R d j n g1 r g3 g4 g5 g6 g7 u m hs w (fun k v=>by
     have D:=((h.gw.gb i d).mem s hs _).1 ⟨k,v,rfl⟩;have q:=h.gw.q _ D.1;have:=q.o0;have:=q.f0;have:=q.c0;have:=q.e0;have:=q.sum;have:=q.hi;omega)
    rw[h.whole d hs z j.symm y]at this;rw[show (if o.kind=4/\(eP S.l o).isSome=true then (8:Int) else if o.kind=3/\decide (kY S.l o S.l.length<o.az)=true then 9 else 0)=if kY S.l o S.l.length<o.az then 9 else 0 by
     rw[if_neg (fun x=>g x.1)];by_cases c:kY S.l o S.l.length<o.az
     ·rw[if_pos ⟨m,by simpa using c⟩,if_pos c]
     ·rw[if_neg (fun x=>c (by simpa using x.2)),if_neg c]]
    exact this
   ·rw[if_neg (fun x=>g x.1),if_neg (fun x=>m x.1)];exact Ld bv bm bo i V o a R d j n g1 r g3 g4 g5 g6 g7 u m g
theorem OG(bv bm bo N:Nat)(V:aS)(p:Nat->Nat)(S:RS)(o:iR)(w:World)(R:dL w bv bm bo V)(hT:qj w)(h:di p V S N)(Y:N<2900000)(hz:vG V)(hlen:o.sym.size<=1000000000)(hid:(Lit.int .i64 o.id).wf=true)(ZA:dM o.aG)(Zz:dM o.kind)(ZB:dM o.af) :
 CT 64 #[PP bv,o.val] w fun e w'=>∃f r n a c P,e=.returned (.tuple #[dm f r n a c,II P])/\TJ bv bm bo V p S N (Ei o) f r n a c P w w':=by
 have X:mN N<=1000000000000000:=by unfold mN;omega
 have hml:o.sym.size<=maxLen:=by unfold maxLen;omega
 have hlS:S.l.length<=200:=by have:=h.no;have:=h.fM;omega
 have hsy:S.sy.length<=1000:=by have:=h.nb;have:=h.Pn;omega
 have hop:∀k,k<S.l.length->0<=(ak S.l k).aH/\(ak S.l k).aH<=1000000000000000:=fun k A=>by have:=h.aH A;omega
 have xk:=h.xk;have zA:=h.zA;have zu:=h.zu;have K:=IQ bv bm bo h Y o hml hid;by_cases j:pJ S o=0
 ·have J:=h.aaN o;rw[j]at J;rcases sZ o (V.aV o.id).isSome (jO S.sy o.sym) (decide (200<=V.no)) (eP S.l o).isSome (decide (kY S.l o S.l.length<o.az)) with⟨_,e⟩ | ⟨_,_,e⟩ | ⟨g1,g2,⟨_,e⟩ | ⟨_,_,e⟩ | ⟨g3,g4,⟨_,e⟩ | ⟨g5,⟨_,e⟩ | ⟨_,_,e⟩ | ⟨g6,g7,⟨g8,e⟩ | ⟨g8,g9,e⟩ | ⟨g8,g9,e⟩⟩⟩⟩⟩
  case inr.inr.inr.inr.inr.inr.inr.inr.inr =>
   have z:V.aV o.id=none:=by simpa using g2
   have W:V.no<200:=by simp at g9;omega
   obtain⟨i,hi,C⟩:=(h.uj _).1 g8;have hsd:o.side=0\/o.side=1:=by
    unfold jH at g4;simp at g4;exact g4
   obtain⟨t,ht,L⟩:∃t:Nat,t<2/\o.side=(t:Int):=by
    rcases hsd with e | e
    ·exact⟨0,by omega,e⟩
    ·exact⟨1,by omega,e⟩
   obtain⟨s,hs,D⟩:∃s,s<2/\t=1-s:=⟨1-t,by omega,by omega⟩;have MJ:1<=o.az/\o.az<=1000000:=by simpa [cZ] using g6
   have VN:o.sym.size<=100:=by rw[<-C];exact hz.sz i hi
   have hinv:∀k,k<(V.B i).n s->(V.om ((V.B i).h s k)).side=(s:Int)/\0<(V.om ((V.B i).h s k)).aH/\(V.om ((V.B i).h s k)).aH<=1000000000000000:=fun k A=>by
    obtain⟨a,b,c,d⟩:=((h.gw.gb i hi).mem s hs _).1 ⟨k,A,rfl⟩;have q:=h.gw.q _ a;exact⟨c,d,by have:=q.sum;have:=q.f0;have:=q.c0;have:=q.e0;have:=q.hi;omega⟩
   rw[j]at K;obtain⟨ol,hol,hov⟩:=h.ol;obtain⟨F,ZZ⟩:∃f:Nat->Nat,f=fun x=>if x<w.heap.size then Gs V x else V.bk i:=⟨_,rfl⟩
   have T:∀y,y<2->∀l,l<(V.B i).n y->F ((V.B i).h y l)=V.bk i:=fun y hy l hl=>by
    obtain⟨id',abJ⟩:=R.mem i hi y hy l hl;obtain⟨_,ix,ho⟩:=R.bg id' _ abJ;rw[ZZ];simp only[if_pos ho.lt];exact uw h.gw hi hy hl
   have U:∀x,w.heap.size<=x->F x=V.bk i:=fun x E=>by
    rw[ZZ];simp only[if_neg (show ¬x<w.heap.size by omega)]
   refine (Uy bv bm bo i s t V o w F T U R hT hi C VN ZA Zz ZB g1 z g6 W K hs D L hinv (h.count hi (by omega)) (h.count hi hs) (by omega) (by omega) (by omega)).mono ?_;rintro e w' ⟨v,rfl,b,g,cap',bG,Z,rfl,Q,k,hF,_,ext,cl,cu,hsg⟩;have I:¬VL V b:=fun ⟨id,E⟩=>by
    obtain⟨_,ix,hob⟩:=R.bg id b E;have:=hob.lt;omega
   obtain⟨G,f,hEn,aad,QL,hrep,M,htold⟩:=h.enter (g:=g) (cap':=cap') (bG:=bG) Y hi hs D C.symm L MJ.1 MJ.2 z I W g1;obtain⟨gv,run,ivz,hBs,_⟩:=h.gw.enter (b:=b) (g:=g) (cap':=cap') (bG:=bG) X hi hs D C.symm L (by omega) (by unfold mN;omega) z I;obtain⟨rf,rr,rn,ra,rk,Oj⟩:=wY S.l.length G;have ab1:(mF b s ⟨V.B i,aK V.om b (aQ o),V.lg.bf o.id⟩).lg.tr.length<=_:=QL.xk;have hcs:=h.count hi hs;have hpb:=h.KQ i hi;obtain⟨did,tn⟩:=NZ (l:=ol++[b]) R h.gw (fun x E=>List.mem_append_left _ (hov x E)) (by simp) (by simp;omega) hi hs D hid z Z (by omega) ivz (by omega) (fun k A=>T s hs k A) (U b Z) hpb.1 (by omega) Q cu hsg;have hfo:qh o.aG:=by unfold mG at g3;simp at g3;exact⟨by omega,by omega⟩
   have hfs:qh o.side:=⟨by omega,by omega⟩;have hfk:qh o.kind:=by unfold nI at g5;simp at g5;exact⟨by omega,by omega⟩
   have hfp:qh o.af:=by unfold jM at g7;split at g7 <;> simp[cZ]at g7 <;> exact⟨by omega,by omega⟩
   refine⟨rf,rr,rn,ra,rk,0,?_,.inr ⟨rfl,Ie (xM g1) hfo hfs hfk hfp (xM g6) VN,_,Q,⟨qV S.l.length G,_,QL,M,fun base O m u H=>?_,htold,?_,by rw[tn.lY M];exact did,tn.ok M⟩,k,hF⟩⟩
   ·rw[<-Oj,<-hrep]
   ·have htl:S.t.length=V.lg.tr.length:=by rw[h.tr]
    have:=IM base O f S m (Ei o) G u H rfl (by omega) hsy hop j hEn (by rw[htl];omega) (by omega);rw[Oj]at this;exact this
   ·exact hz.enter h.gw X hi hs C.symm (by omega) (by unfold mN;omega) z I ivz hBs
  all_goals
   rw[e]at J;exact absurd J (by decide)
 ·refine (N8 bv o (pJ S o) w j (fun u kW=>K u (R.ax kW))).mono ?_;rintro e w' ⟨rfl,k⟩;exact⟨0,0,0,0,0,pJ S o,rfl,.inl ⟨j,k,S.fresh,fun base O m u H=>yZ base O S m (Ei o) u H rfl (by omega) hsy hop j⟩⟩
open Go.RowKit Go.Maps Go.Shelf
inductive pR {α:Type} (P:List (oO × α)->aS->Prop):List (oO × α)->aS->Prop
 | nil {V:aS} (h:P [] V):pR P [] V
 | kL {H:List (oO × α)} {n:oO} {a:α} {V0 V1 V:aS} {l:List Nat} (h:pR P H V0) (u:jS n.bk (KK l) n.ds n.Ts V0 V1) (hl:dK V1 V) (hll:l.length<1000) (hd:0<n.ds.length/\n.ds.length<=100000) (hp:P (H++[(n,a)]) V):pR P (H++[(n,a)]) V
section
variable {α : Type} {P P' : List (oO × α) -> aS -> Prop} {H : List (oO × α)} {V V' : aS}
theorem pR.aac(h:pR P H V):P H V:=by
 cases h with
 | nil h=>exact h
 | kL h u hl hll hd hp=>exact hp
theorem pR.J7(a:∀H V V',P H V->dK V V'->P H V')(h:pR P H V)(l:dK V V'):pR P H V':=by
 cases h with
 | nil h=>exact pR.nil (a _ _ _ h l)
 | kL h u hl hll hd hp=>exact pR.kL h u (hl.trans l) hll hd (a _ _ _ hp l)
theorem pR.mono(a:∀H V,P H V->P' H V)(h:pR P H V):pR P' H V:=by
 induction h with
 | nil h=>exact pR.nil (a _ _ h)
 | kL h u hl hll hd hp ih=>exact pR.kL ih u hl hll hd (a _ _ hp)
theorem pR.last{n:oO}{a:α}(h:pR P (H++[(n,a)]) V):∃b V1 l,pR P H b/\jS n.bk (KK l) n.ds n.Ts b V1/\dK V1 V/\l.length<1000/\0<n.ds.length/\n.ds.length<=100000:=by
 generalize e:H++[(n,a)]=H2 at h;cases h with
 | nil h=>simp at e
 | kL h u hl hll hd hp =>
   obtain⟨d,c⟩:=List.append_inj' e rfl;simp only[List.cons.injEq,Prod.mk.injEq,and_true]at c;obtain⟨rfl,rfl⟩:=c;subst d;exact⟨_,_,_,h,u,hl,hll,hd.1,hd.2⟩
end
def Bx{α:Type}(H:List (oO × α))(b:Nat):Prop:=∃h∈H,∃c∈h.1.cl,xw c b
structure xB{α:Type}(bv bm bo:Nat)(V:aS)(H:List (oO × α))(w:World):Prop where
 fns:∀h∈H,Pg bv bm bo V h.1 w
 acs:V.lm.ac.map Prod.snd=H.map (fun h=>h.1.cl)
 nt:∀h,H.getLast?=some h->V.lg.nt=h.1.ds
section
variable {α : Type} {bv bm bo : Nat} {V V' : aS} {H : List (oO × α)} {w w' : World}
theorem xB.lt(h:xB bv bm bo V H w){b:Nat}(a:Bx H b):b<w.heap.size:=by
 obtain⟨x,f,c,d,e⟩:=a;exact (h.fns x f).lt d e
theorem xB.aC(h:xB bv bm bo V H w){a:Nat->Prop}(k:aj a w w')(e:∀b,Bx H b->¬a b):xB bv bm bo V H w' :=
 ⟨fun x d=>(h.fns x d).ax k (fun c g b f=>e b ⟨x,d,c,g,f⟩),h.acs,h.nt⟩
theorem xB.did{B:List (Int × Tr)}(h:xB bv bm bo V H w)(k:aj (bY bv bm bo V) w w')(f:∀x,bY bv bm bo V' x->bY bv bm bo V x\/w.heap.size<=x){n:oO}{a:α}(d:V'.lm.ac.map Prod.snd=V.lm.ac.map Prod.snd++[n.cl])(e:V'.lg.nt=n.ds)(c:Pg bv bm bo V' n w'):xB bv bm bo V' (H++[(n,a)]) w':=by
 refine⟨fun x b=>?_,by rw[d,h.acs,List.map_append];rfl,fun x b=>?_⟩
 ·rcases List.mem_append.1 b with b | b
  ·exact (h.fns x b).aC k f
  ·rw[List.mem_singleton.1 b];exact c
 ·rw[List.getLast?_append]at b;simp at b;rw[<-b];exact e
end
theorem FV(B:List (Int × Tr)):∀G:Lg,(G.nN B).tp=iL G.tp B:=by
 induction B with
 | nil=>intro G;rfl
 | cons p B ih =>
   intro G;show ((G.told p.1 p.2).nN B).tp=iL (G.tp++[_]) B;rw[ih];rfl
theorem oP.nN:∀{B:List (Int × Tr)} {R:List Rc},oP R->(∀p∈B,p.2.sym.size<=100000)->oP (iL R B)
 | [],R,h,_=>h
 | p :: B,R,h,hb=>oP.nN (B:=B) (h.kL rfl (hb p (by simp))) (fun q a=>hb q (by simp[a]))
theorem vG.J7{V V':aS}(h:vG V)(l:dK V V')(o:oP V'.lg.tp):vG V':=by
 have e:=l.nb;have om:∀id b,V.aV id=some b->V'.om b=V.om b:=fun id b a=>l.om b ⟨id,a⟩
 refine⟨fun i p=>by rw[l.sym i (by omega)];exact h.sz i (by omega),⟨fun t g=>?_,fun id b a=>?_,fun id b a=>?_⟩,fun x f=>h.sy x (by rw[<-l.tr];exact f),o,fun k x f=>h.nm k x (by rw[<-l.tr];exact f),by rw[l.day];exact h.dy⟩
 ·rw[l.tr]at g;obtain⟨⟨b,d,a2,a3⟩,⟨c,c1,j,m⟩,n⟩:=h.fl.tw t g;exact⟨⟨b,by rw[l.aV];exact d,by rw[om _ _ d];exact a2,by rw[om _ _ d];exact a3⟩,⟨c,by rw[l.aV];exact c1,by rw[om _ _ c1];exact j,by rw[om _ _ c1];exact m⟩,n⟩
 ·rw[l.aV]at a;rw[om _ _ a];exact h.fl.xx id b a
 ·rw[l.aV]at a;rw[om _ _ a,l.tr];exact h.fl.eq id b a
def LP(M:Nat)(H:List (oO × bD))(V:aS):Prop :=
 ∃(V0:aS) (p:Nat->Nat) (S:RS) (N:Nat),di p V0 S N/\N<=M/\vG V0/\dK V0 V/\oN (H.map Prod.snd) S/\S.told.length<=201 /\
  ∀H' n a,H=H'++[(n,a)]->∃S0,oN (H'.map Prod.snd) S0/\n.Ts.flatten=lY S0.t S.told/\pW S0.t S.told/\S0.t.length<=300 * M/\∀q∈n.Ts.flatten,q.2.sym.size<=100000
theorem LP.J7{M:Nat}(H:List (oO × bD))(V V':aS)(h:LP M H V)(l:dK V V'):LP M H V':=by
 obtain⟨a,p,S,N,b,c,d,e,f⟩:=h;exact⟨a,p,S,N,b,c,d,e.trans l,f⟩
theorem LP.mono{M M':Nat}(q:M<=M')(H:List (oO × bD))(V:aS)(h:LP M H V):LP M' H V:=by
 obtain⟨d,p,S,N,g,o,i,j,k,l,m⟩:=h;refine⟨d,p,S,N,g,by omega,i,j,k,l,fun b n a e=>?_⟩;obtain⟨c,f,a2,a3,a4,a5⟩:=m b n a e;exact⟨c,f,a2,a3,by omega,a5⟩
theorem Tm{R told:List Rc}{G:Lg}(h:oP G.tp)(g:G.tp=nJ R told):∀r∈told,r.t.sym.size<=100000:=fun r d=>by
 have a:=uH told R;rw[<-g]at a;have:(r.kind,r.t)∈told.map (fun r=>(r.kind,r.t)):=List.mem_map.2 ⟨r,d,rfl⟩;rw[<-a]at this;obtain⟨j,f,e⟩:=List.mem_map.1 this;simp only[Prod.mk.injEq]at e;obtain⟨i,c,b⟩:=List.mem_iff_getElem.1 (List.mem_of_mem_drop f);have:=(h i j (by rw[List.getElem?_eq_getElem c,b])).2;rw[<-e.2];exact this
theorem QR{t0:List Tg}{told:List Rc}(d:∀x∈t0,x.t.sym.size<=100000)(a:∀r∈told,r.t.sym.size<=100000):∀q∈lY t0 told,q.2.sym.size<=100000:=fun q f=>by
 obtain⟨r,b,e⟩:=List.mem_filterMap.1 f;unfold wO at e;split at e
 ·rw[<-Option.some.inj e];exact a r b
 ·split at e
  ·rw[<-Option.some.inj e];exact a r b
  ·split at e
   ·obtain⟨x,g,c⟩:=Option.map_eq_some_iff.1 e;rw[<-c];exact d x (List.mem_of_getElem? g)
   ·simp at e
theorem dL.Hy{w w':World}{bv bm bo:Nat}{V:aS}(R:dL w bv bm bo V){d:Nat->Prop}(k:aj d w w')(a:∀y,bY bv bm bo V y->¬d y):dL w' bv bm bo V:=by
 obtain⟨i,p,e,f⟩:=R.iM;obtain⟨l,q,g⟩:=R.fA;exact⟨R.aO.aC k (a _ (.inl rfl)) (fun y c=>a y (vk c)),⟨i,p.aC k (a _ (.inr (.inl rfl))),e,f⟩,⟨l,q.aC k (a _ (jL rfl)),g⟩,R.F5,fun j b=>(R.aW j b).aC k (fun y c=>a y (by
  rcases c with h | ⟨r,n,h⟩
  ·exact iQ ⟨j,b,.inl h⟩
  ·exact iQ ⟨j,b,.inr ⟨r,n,h⟩⟩)),fun id y h=>⟨(R.bg id y h).1,(R.bg id y h).2.elim fun o m=>⟨o,k.ay m (a y (qo ⟨id,h⟩))⟩⟩,R.mem,R.rY,R.nX,R.fM⟩
structure Pr where
 bv:Nat
 bm:Nat
 bo:Nat
 rb:Nat
 V:aS
 A:List bD
 R:List Rc
 L:ByteArray
 av:Value
 rv:Value
 p:Nat->Nat
 S:RS
 N:Nat
 H:List (oO × bD)
structure jU(w:World)(x:Pr):Prop where
 kK:dL w x.bv x.bm x.bo x.V
 doc:RV w 0 x.rb x.A x.R x.L x.av x.rv
 oG:di x.p x.V x.S x.N
 xP:oN x.A x.S
 apart:∀b,bY x.bv x.bm x.bo x.V b\/Bx x.H b->¬RF x.rb x.av x.rv b
 aN:x.A.length<=x.N
 rt:x.V.lg.tp=x.R
 lN:x.L.size<=400 * x.N
 sz:vG x.V
 hA:x.A=x.H.map Prod.snd
 U9:pR (LP x.N) x.H x.V
 mem:xB x.bv x.bm x.bo x.V x.H w
def PF(x:Pr)(b:Nat):Prop:=bY x.bv x.bm x.bo x.V b\/RF x.rb x.av x.rv b\/Bx x.H b
theorem jU.lt{w:World}{x:Pr}(h:jU w x){b:Nat}(a:PF x b):b<w.heap.size:=by
 rcases a with a | a | a
 ·exact h.kK.zn a
 ·exact (h.doc.lt a).2
 ·exact h.mem.lt a
theorem jU.aC{w w':World}{x:Pr}(h:jU w x){d:Nat->Prop}(k:aj d w w')(c:∀b,PF x b->¬d b):jU w' x :=
 ⟨h.kK.Hy k (fun b a=>c b (.inl a)),h.doc.aC k (fun b a=>c b (.inr (.inl a))),h.oG,h.xP,h.apart,h.aN,h.rt,h.lN,h.sz,h.hA,h.U9,h.mem.aC k (fun b a=>c b (.inr (.inr a)))⟩
theorem jU.ax{w w':World}{x:Pr}(h:jU w x)(k:aj aA w w'):jU w' x:=h.aC k (fun _ _ a=>a)
def FX(x:Pr)(w w':World):Prop:=∃x',jU w' x'/\aj (PF x) w w'/\(∀b,PF x' b->PF x b\/w.heap.size<=b)/\x'.bv=x.bv/\x'.rb=x.rb/\x'.N<=x.N+1
def Ea(S:RS)(sym:ByteArray)(side:Int)(ls:List iT)(E:Int):Prop :=
 (E=6/\ls=[]/\jO S.sy sym=false)\/(E=4/\ls=[]/\jO S.sy sym=true/\jH side=false)\/(E=0/\jO S.sy sym=true/\(side=0\/side=1)/\nY S.l sym side ls.length [] ls/\ls.length<=200)
theorem di.aW{p:Nat->Nat}{V:aS}{S:RS}{N:Nat}(h:di p V S N)(K:N<2900000){i s:Nat}(j:i<V.nb)(hs:s<2){c:List Nat}(I:Jv V.om ((V.B i).n s) ((V.B i).h s) c) :
 nY S.l (V.B i).sym (s:Int) (je (iG V.om c)).length [] (je (iG V.om c))/\(je (iG V.om c)).length<=200:=by
 have J:mN N<=1000000000000000:=by unfold mN;omega
 obtain⟨r,v⟩:=I;have L:=h.count j hs;have O:=h.fM;have u:∀y∈c,VL V y/\(V.om y).side=(s:Int):=fun y t=>by
  have:=r.mem_iff.1 t;unfold upto at this;rw[List.mem_map]at this;obtain⟨k,d,rfl⟩:=this;rw[List.mem_range]at d;have:=((h.gw.gb i j).mem s hs _).1 ⟨k,d,rfl⟩;exact⟨this.1,this.2.2.1⟩
 have M:(iG V.om c).length<=200:=by
  unfold iG;rw[List.length_map,r.length_eq,nP];omega
 have D:=uZ (iG V.om c) [];have A:(je (iG V.om c)).length<=200:=by
  unfold je;simp only[List.length_nil]at D;omega
 refine⟨?_,A⟩;have G:=UZ (s:Int) (iG V.om c) (by omega) (fun o m=>by
  unfold iG at m;rw[List.mem_map]at m;obtain⟨y,t,rfl⟩:=m;have q:=h.gw.q y (u y t).1;have:=q.o0;have:=q.f0;have:=q.c0;have:=q.e0;have:=q.sum;have:=q.hi;omega) (by
  unfold iG;rw[List.pairwise_map];have F:c.Pairwise (fun a b=>(a∈c/\b∈c)/\fE V.om b a=false):=by
   rw[List.pairwise_iff_getElem]at v ⊢;intro a b g e C;exact⟨⟨List.getElem_mem g,List.getElem_mem e⟩,v a b g e C⟩
  refine F.imp ?_;rintro a b ⟨⟨g,e⟩,f⟩;unfold fE at f;rw[iF]at f;rw[(u b e).2]at f;unfold yQ;intro H;exact f (.inl H))
 refine NP s hs S.l (V.B i).sym ((iG V.om c).map po) _ (by have:=h.no;omega) (fun k d=>by have:=h.aH d;omega) ?_ G;have E:=h.perm j hs;have z:((iG V.om c).map po).Perm (((upto ((V.B i).h s) ((V.B i).n s)).map V.om).map po):=by
  unfold iG;exact ((r.map _).map _)
 refine z.trans ?_;refine ((E.map V.om).map po).trans ?_;rw[List.map_map,List.map_map,List.map_map];refine List.Perm.of_eq (List.map_congr_left (fun k d=>?_));obtain⟨_,_,_,_,_,w,_,_,x,_⟩:=fC (h.same k (zt.1 d).1);simp only[Function.comp,po,w,x]
theorem Va{x:Pr}{w:World}(h:jU w x)(r:x.N<2000000)(sym:ByteArray)(side:Int)(hs:sym.size<=1000000000):CT 25 #[PP x.bv,.string sym,II side] w fun e w'=>∃v g d,e=.returned (.tuple #[v,II d])/\uK w.heap.size w' v g/\aj aA w w'/\Ea x.S sym side g d:=by
 have b:sym.size<=maxLen:=by unfold maxLen;omega
 cases hx:jO x.S.sy sym
 ·refine (Et x.bv x.bm x.bo x.V sym side w h.kK b (fun i a e=>?_)).mono ?_
  ·rw[(h.oG.uj _).2 ⟨i,a,e⟩]at hx;exact absurd hx (by decide)
  ·rintro e w' ⟨rfl,k⟩;exact⟨_,[],6,rfl,.inl ⟨rfl,rfl⟩,k,.inl ⟨rfl,rfl,hx⟩⟩
 ·obtain⟨i,a,rfl⟩:=(h.oG.uj _).1 hx;cases hsd:jH side
  ·refine (JG x.bv x.bm x.bo i x.V side w h.kK a b hsd).mono ?_;rintro e w' ⟨rfl,k⟩;exact⟨_,[],4,rfl,.inl ⟨rfl,rfl⟩,k,.inr (.inl ⟨rfl,rfl,hx,hsd⟩)⟩
  ·have f:side=0\/side=1:=by unfold jH at hsd;simpa using hsd
   obtain⟨s,c,rfl⟩:∃s:Nat,s<2/\side=(s:Int):=by
    rcases f with e | e
    ·exact⟨0,by omega,e⟩
    ·exact⟨1,by omega,e⟩
   refine (Uo x.bv x.bm x.bo i s x.V w h.kK a c b (fun j o=>(h.oG.gw.gb i a).side c o)).mono ?_;rintro e w' ⟨v,rfl,t,q,p,n⟩;obtain⟨l,m⟩:=h.oG.aW (by omega) a c q;exact⟨v,_,0,rfl,p,aj.tZ n,.inr (.inr ⟨rfl,hx,f,l,m⟩)⟩
theorem RZ{x:Pr}{w:World}(h:jU w x)(o:x.N<2000000){sym:ByteArray}{side:Int}{a:List iT}{f:Int}(j:Ea x.S sym side a f):CT 102 #[PP x.rb,.string sym,II side] w fun e w'=>∃v,e=.returned (.tuple #[v,II f])/\w'.ownsRow w.heap.size 93 3 v a.length (jF a)/\aj aA w w':=by
 have i:x.S.l.length<=1000:=by have:=h.oG.no;have:=h.oG.fM;omega
 have d:x.S.sy.length<=1000:=by have:=h.oG.nb;have:=h.oG.Pn;omega
 have n:=h.aN;rcases j with⟨rfl,rfl,b⟩ | ⟨rfl,rfl,b,c⟩ | ⟨rfl,b,c | c,g,m⟩
 ·refine (BV 0 x.rb x.A x.R x.L x.av x.rv x.S sym side w h.doc h.xP (by omega) d b).mono ?_;rintro e w' ⟨rfl,k⟩;exact⟨_,rfl,World.ownsRow_nil _ _ _ _,k⟩
 ·refine (IJ 0 x.rb x.A x.R x.L x.av x.rv x.S sym side w h.doc h.xP (by omega) d b c).mono ?_;rintro e w' ⟨rfl,k⟩;exact⟨_,rfl,World.ownsRow_nil _ _ _ _,k⟩
 ·subst c;exact OM 0 x.rb a.length x.A x.R x.L x.av x.rv x.S sym a w h.doc h.xP (by omega) i d b g (by omega)
 ·subst c;exact KZ 0 x.rb a.length x.A x.R x.L x.av x.rv x.S sym a w h.doc h.xP (by omega) i d b g (by omega)
def CG(x:Pr)(K:Nat->Prop)(w w':World):Prop:=∃x',jU w' x'/\aj (fun b=>PF x b\/K b) w w'/\(∀b,PF x' b->PF x b\/w.heap.size<=b)/\x'.bv=x.bv/\x'.rb=x.rb/\x'.N<=x.N+1
theorem CG.of{x:Pr}{d:Nat->Prop}{c w w':World}(e:aj aA c w)(h:CG x d w w')(m:∀b,d b->c.heap.size<=b):FX x c w':=by
 obtain⟨n,f,g,i,j,k,l⟩:=h;exact⟨n,f,e.aP.from (g.mono (fun b a=>a.elim .inl (fun y=>.inr (m b y)))),fun b a=>(i b a).imp_right (fun y=>Nat.le_trans e.size y),j,k,l⟩
theorem CG.more{x:Pr}{c K':Nat->Prop}{w w' g:World}(h:CG x c w w')(k:aj K' w' g)(e:∀b,K' b->¬PF x b/\b<w.heap.size):CG x (fun b=>c b\/K' b) w g:=by
 obtain⟨o,i,j,d,l,m,n⟩:=h;refine⟨o,i.aC k (fun b a f=>?_),(j.mono (fun b a=>a.imp_right .inl)).trans (k.mono (fun b a=>.inr (.inr a))),d,l,m,n⟩;rcases d b a with y | y
 ·exact (e b f).1 y
 ·have:=(e b f).2;omega
theorem TJ.jW{bv bm bo:Nat}{V:aS}{p:Nat->Nat}{S:RS}{N:Nat}{a:bD}{e r n i c d:Int}{w b:World}(h:TJ bv bm bo V p S N a e r n i c d w b):aj (bY bv bm bo V) w b:=by
 rcases h with⟨_,k,_⟩ | ⟨_,_,V',_,_,k,_⟩
 ·exact k.aP
 ·exact k
theorem vT{x:Pr}{a:bD}{C r n i c E:Int}{v:Nat->Prop}{w D w2:World}(h:jU w x)(hN:x.N<2000000)(hO:TJ x.bv x.bm x.bo x.V x.p x.S x.N a C r n i c E w D)(m:aj v D w2)(q:∀b,v b->¬PF x b/\b<w.heap.size) :
 CT 99 #[PP x.rb,a.val] w2 fun e w'=>e=.returned (.tuple #[dm C r n i c,II E])/\CG x v w w'/\aj (RF x.rb x.av x.rv) w2 w':=by
 have hA:=h.aN;rcases hO with⟨hE,k,S',z⟩ | ⟨rfl,⟨G,hl,hln⟩,V',J,⟨S',U,P,Q,z,htold,F,⟨nt,ol,und,hol,QE,M,hac,hnt,fns,O⟩,iok⟩,k,t⟩
 ·have Z:=(h.doc.ax k).aC m (fun b d j=>(q b j).1 (.inr (.inl d)));refine (Ve 0 x.rb x.A x.R x.L x.av x.rv x.S S' a C r n i c E w2 Z h.xP (by omega) z hE).mono ?_;rintro e w' ⟨rfl,o⟩;exact⟨rfl,⟨x,((h.ax k).aC m (fun b d j=>(q b j).1 d)).ax o,(k.aP.trans (m.mono (fun b d=>.inr d))).trans o.aP,fun b d=>.inl d,rfl,rfl,by omega⟩,o.aP⟩
 ·have Y:RV D 0 x.rb x.A x.R x.L x.av x.rv:=h.doc.aC k (fun b d t=>h.apart b (.inl t) d);have hR:x.R.length<=300 * x.N:=by rw[<-h.rt];exact h.oG.zA
  have hL:=h.lN;refine (X8 0 x.rb x.A x.R x.L G x.av x.rv x.S S' a C r n i c w2 (Y.aC m (fun b d j=>(q b j).1 (.inr (.inl d)))) h.xP (by omega) z hl (by omega) (by omega) (by omega)).mono ?_;rintro e w' ⟨rfl,X,rv',d3,W,o⟩;have T:∀b,bY x.bv x.bm x.bo V' b->¬RF x.rb x.av x.rv b:=fun b d u=>by
   rcases t b d with f | f
   ·exact h.apart b (.inl f) u
   ·have:=(h.doc.lt u).2;omega
  have I:∀b,Bx (x.H++[(nt,a)]) b->¬RF x.rb x.av x.rv b/\¬v b:=fun b d=>by
   obtain⟨y,g,c,l,s⟩:=d;rcases List.mem_append.1 g with g | g
   ·exact⟨h.apart b (.inr ⟨y,g,c,l,s⟩),fun j=>(q b j).1 (.inr (.inr ⟨y,g,c,l,s⟩))⟩
   ·rw[List.mem_singleton.1 g]at l;have h1:=O c l b s;exact⟨fun u=>by have:=(h.doc.lt u).2;omega,fun j=>by have:=(q b j).2;omega⟩
  have m1:xB x.bv x.bm x.bo V' (x.H++[(nt,a)]) D:=h.mem.did (B:=[]) k t hac hnt fns;have xk:=h.oG.xk;have nfk:∀b,bY x.bv x.bm x.bo V' b->¬v b:=fun b d j=>by
   rcases t b d with f | f
   ·exact (q b j).1 (.inl f)
   ·have:=(q b j).2;omega
  have ack:=m.size;have szw:=k.size;refine⟨rfl,⟨⟨x.bv,x.bm,x.bo,x.rb,V',x.A++[a],nJ x.R S'.told,x.L++G++⟨#[10]⟩,X,rv',U,S',x.N+1,x.H++[(nt,a)]⟩,?_,?_,?_,rfl,rfl,Nat.le_refl _⟩,o⟩
  ·refine⟨(J.Hy m nfk).Hy o T,d3,P,h.xP.kL z,fun b d u=>?_,?_,?_,?_,F,?_,?_,(m1.aC m (fun b d=>(I b d).2)).aC o (fun b d=>(I b d).1)⟩
   ·rcases W b u with f | f
    ·rcases d with d | d
     ·exact T b d f
     ·exact (I b d).1 f
    ·rcases d with d | d
     ·have:=J.zn d;omega
     ·have:=m1.lt d;omega
   ·simp only[List.length_append,List.length_singleton];omega
   ·rw[Q,h.rt]
   ·simp only[ByteArray.size_append];show x.L.size+G.size+1<=400 * (x.N+1);omega
   ·show x.A++[a]=(x.H++[(nt,a)]).map Prod.snd;rw[h.hA,List.map_append];rfl
   ·refine pR.kL (h.U9.mono (LP.mono (Nat.le_add_right _ 1))) und (dK.refl _) hol QE ⟨V',U,S',x.N+1,P,Nat.le_refl _,F,dK.refl _,?_,htold,fun H' n' a' e=>?_⟩
    ·rw[List.map_append];show oN (x.H.map Prod.snd++[a]) S';rw[<-h.hA];exact h.xP.kL z
    ·obtain⟨e1,K⟩:=List.append_inj' e rfl;simp only[List.cons.injEq,Prod.mk.injEq,and_true]at K;obtain⟨rfl,rfl⟩:=K;subst e1;refine⟨x.S,by rw[<-h.hA];exact h.xP,M,iok,by rw[<-h.oG.tr];show _<=300 * (x.N+1);omega,?_⟩;rw[M];exact QR (fun y g=>h.sz.sy y (by rw[h.oG.tr];exact g)) (Tm F.tp Q)
  ·refine ((k.mono (fun b d=>.inl (.inl d))).trans (m.mono (fun b d=>.inr d))).trans (o.mono (fun b d=>.inl (.inr (.inl d))))
  ·intro b d;rcases d with d | d | d
   ·rcases t b d with f | f
    ·exact .inl (.inl f)
    ·exact .inr f
   ·rcases W b d with f | f
    ·exact .inl (.inr (.inl f))
    ·exact .inr (by omega)
   ·obtain⟨y,g,c,l,s⟩:=d;rcases List.mem_append.1 g with g | g
    ·exact .inl (.inr (.inr ⟨y,g,c,l,s⟩))
    ·rw[List.mem_singleton.1 g]at l;exact .inr (O c l b s)
structure kQ where
 kind:Int
 m:Int
 a:Int
 b:Int
 c:Int
 s:ByteArray
 o:iR
def kQ.cells(o:kQ):Array Value:=#[II o.kind,II o.m,II o.a,II o.b,II o.c,.string o.s,II o.o.id,II o.o.aG,.string o.o.sym,II o.o.side,II o.o.kind,II o.o.af,II o.o.az]
def kQ.val(o:kQ):Value:=.agg o.cells
structure qC(o:kQ):Prop where
 m:dM o.m
 a:dM o.a
 id:dM o.o.id
 own:dM o.o.aG
 kd:dM o.o.kind
 pr:dM o.o.af
 s:o.s.size<=100000000
 sym:o.o.sym.size<=100000000
theorem EG{n:Int}(h:dM n):(Lit.int .i64 n).wf=true:=WalkArith.wf_i64 (by unfold dM at h;omega)
theorem nD(x:Pr)(e m a b c:Int)(s:ByteArray)(id g:Int)(sym:ByteArray)(side f af az:Int)(w:World)(h:jU w x):∃d,d=((((w.alloc (.cells #[PP x.bv,PP x.rb] 131)).alloc (.cells #[II e,II m,II a,II b,II c,.string s,II id,II g,.string sym,II side,II f,II af,II az] 81)).alloc (.cells bC 87)).alloc (.cells bC 87))/\aj aA w d/\d.heap.size=w.heap.size+4/\jU d x /\
 au d w.heap.size #[PP x.bv,PP x.rb] 131/\au d (w.heap.size+1) #[II e,II m,II a,II b,II c,.string s,II id,II g,.string sym,II side,II f,II af,II az] 81/\au d (w.heap.size+2) bC 87/\au d (w.heap.size+3) bC 87/\∀b,w.heap.size<=b->¬PF x b:=by
 have i:=((((aj.refl aA w).alloc (.cells #[PP x.bv,PP x.rb] 131)).alloc (.cells #[II e,II m,II a,II b,II c,.string s,II id,II g,.string sym,II side,II f,II af,II az] 81)).alloc (.cells bC 87)).alloc (.cells bC 87);refine⟨_,rfl,i,by simp,h.ax i,(((au.new w _ _).alloc _).alloc _).alloc _,((au.qm w _ _ _).alloc _).alloc _,(au.MR w _ _ _ _).alloc _,?_,fun b k j=>by have:=h.lt j;omega⟩;have:=au.new (((w.alloc (.cells #[PP x.bv,PP x.rb] 131)).alloc (.cells #[II e,II m,II a,II b,II c,.string s,II id,II g,.string sym,II side,II f,II af,II az] 81)).alloc (.cells bC 87)) bC 87
 simpa using this
def marks(mk:Int):Nat->List Value
 | 0=>[]
 | n+1=>marks mk n++[II mk,II 0,II 0]
theorem kJ(mk:Int):∀n,(marks mk n).length=n * 3
 | 0=>rfl
 | n+1=>by rw[marks,List.length_append,kJ mk n];simp;omega
theorem KF(mk:Int){k n:Nat}(h:k<=n):(marks mk n).take (k * 3)=marks mk k:=by
 induction n with
 | zero=>have:k=0:=by omega
         subst this;rfl
 | succ n ih =>
   by_cases e:k=n+1
   ·subst e;rw[List.take_of_length_le (by rw[kJ];omega)]
   ·rw[marks,List.take_append_of_le_length (by rw[kJ];omega)];exact ih (by omega)
theorem wR(mk:Int){i n j:Nat}(h:i<n)(a:j<3):(marks mk n)[i * 3+j]?=[Value.int .i64 mk,II 0,II 0][j]?:=by
 induction n with
 | zero=>omega
 | succ n ih =>
   rw[marks];by_cases e:i=n
   ·subst e;rw[List.getElem?_append_right (by rw[kJ];omega),kJ];congr 1;omega
   ·rw[List.getElem?_append_left (by rw[kJ];omega)];exact ih (by omega)
structure Hd where
 hb:Nat
 lv:Value
 Wl:List Value
 YG:Int
def Dv(x:Pr):List Value:=[PP x.bv,PP x.rb]
def oZ(X:List Pr):List Value:=X.flatMap Dv
def uY(h:Hd):Value:=PP h.hb
theorem Oa{a:List Pr}{i:Nat}{x c:Pr}(b:a[i]?=some x)(d:c.bv=x.bv)(e:c.rb=x.rb):oZ (a.set i c)=oZ a:=by
 unfold oZ
 induction a generalizing i with
 | nil=>simp at b
 | cons y a ih =>
   cases i with
   | zero =>
     simp only[List.getElem?_cons_zero,Option.some.injEq]at b;subst b;simp only[List.set_cons_zero,List.flatMap_cons,Dv,d,e]
   | succ i =>
     simp only[List.getElem?_cons_succ]at b;simp only[List.set_cons_succ,List.flatMap_cons];rw[ih b]
open Go.RowKit
attribute [local go_sem ↓] Go.wp_at_zero Go.wp_at_succ
theorem zy{w:World}{base e n c:Nat}{a:Option Addr}{b:List Value}(h:w.ownsRow base e 1 (.slice a n c) n b){i:Nat}{v:Value}(j:b.length=n)(d:b[i]?=some v):∃g,a=some ⟨g,0,none⟩/\g<w.heap.size/\w.cell? ⟨g,i,none⟩=some v:=by
 have f:=(List.getElem?_eq_some_iff.1 d).1;obtain⟨g,rfl,_⟩:=gQ h (by omega);refine⟨g,rfl,(h.lt g rfl).2,?_⟩;rw[h.cellAt _ (by omega)];exact d
theorem XE:(Tryz.prog.info? 63).map (fun i=>(i.zero,i.size,i.bytes))=some (some (.slice none 0 0),1,24):=by kernel_rfl
theorem EH:(Tryz.prog.info? 133).map (fun i=>(i.zero,i.size,i.bytes))=some (some (.pointer none),1,8):=by kernel_rfl
theorem Ox{cs:Array Value}{mk:Int}{i:Nat}(h:cs.toList.take (i * 3)=marks mk i)(hs:i * 3+3<=cs.size) :
 (((cs.setIfInBounds (i * 3) (II mk)).setIfInBounds (i * 3+1) (II 0)).setIfInBounds (i * 3+2) (II 0)).toList.take ((i+1) * 3)=marks mk (i+1):=by
 apply List.ext_getElem?;intro j;rw[List.getElem?_take];by_cases c:j<(i+1) * 3
 ·rw[if_pos c];simp only[Array.toList_setIfInBounds];by_cases b:j=i * 3+2
  ·subst b;rw[List.getElem?_set_self (by simp;omega)];have:=wR mk (i:=i) (n:=i+1) (j:=2) (by omega) (by omega);rw[this];rfl
  ·rw[List.getElem?_set_ne (fun e=>b e.symm)];by_cases a:j=i * 3+1
   ·subst a;rw[List.getElem?_set_self (by simp;omega)];have:=wR mk (i:=i) (n:=i+1) (j:=1) (by omega) (by omega);rw[this];rfl
   ·rw[List.getElem?_set_ne (fun e=>a e.symm)];by_cases h0:j=i * 3
    ·subst h0;rw[List.getElem?_set_self (by simp;omega)];have:=wR mk (i:=i) (n:=i+1) (j:=0) (by omega) (by omega);exact this.symm
    ·rw[List.getElem?_set_ne (fun e=>h0 e.symm)];have d:j<i * 3:=by omega
     have:cs.toList[j]?=(marks mk i)[j]?:=by rw[<-h,List.getElem?_take,if_pos d]
     rw[this,marks,List.getElem?_append_left (by rw[kJ];exact d)]
 ·rw[if_neg c,List.getElem?_eq_none (by rw[kJ];omega)]
abbrev KL(B hb:Nat)(mk:Int):=KG 63 93 3 (marks mk) (fun lv=>#[lv,.slice none 0 0,.slice none 0 0,II mk]) B hb
def WX:iR:=⟨0,0,⟨#[]⟩,0,0,0,0⟩
def sN(n:Int)(again:Bool):bD:=⟨98,⟨#[]⟩,WX,n,0,0,again⟩
def jd(n b:Int):bD:=⟨107,⟨#[]⟩,WX,n,b,0,false⟩
def zI:bD:=⟨120,⟨#[]⟩,WX,0,0,0,false⟩
theorem qY{base b:Nat}{S:RS}{m:SM}{x:bD}{c:Int}{w:World}(h:dF w base b S m)(g:c≠0)(f:∀d,aj aA w d->CT 204 #[PP b,II x.a] d fun e w'=>e=.returned (II c)/\aj aA d w') :
 CT 171 #[PP b,x.val] w fun e w'=>e=.returned (II c)/\iZ base b S m w w':=by
 refine (KY base b S m x c w h g f).mono ?_;rintro e w' ⟨rfl,k⟩;exact⟨rfl,(iZ.refl h).ext k⟩
theorem yS{S:RS}{n:Int}{again:Bool}(g:S.t.length<=1000000000)(i:n<1\/(S.t.length:Int)<n):jP S (sN n again) S.fresh (dm 0 0 0 0 0) 6:=fun base b m w h =>
 vV base b S S.fresh m (sN n again) 6 w h rfl (fun k m' a=>qY a (by decide) (fun c j=>(vz base b S.fresh m' n c (a.ax j) g i).mono (fun e w' ⟨d,f⟩=>⟨d,by rw[f];exact aj.refl _ _⟩)))
theorem vJ{S:RS}{n b:Int}(i:S.t.length<=1000000000)(j:n<1\/(S.t.length:Int)<n):jP S (jd n b) S.fresh (dm 0 0 0 0 0) 6:=fun base c m w h =>
 nC base c S S.fresh m (jd n b) 6 w h rfl (fun l m' a=>qY a (by decide) (fun d k=>(vz base c S.fresh m' n d (a.ax k) i j).mono (fun e w' ⟨f,g⟩=>⟨f,by rw[g];exact aj.refl _ _⟩)))
theorem zU{S:RS}{n:Int}{again:Bool}{k:Nat}{x:Tg}(f:S.t.length<=1000000000)(e:n-1=(k:Int))(g:S.t[k]?=some x)(d:kZ x S.day≠0):jP S (sN n again) S.fresh (dm 0 0 0 0 0) (kZ x S.day):=fun base b m w h =>
 vV base b S S.fresh m (sN n again) _ w h rfl (fun j m' a=>qY a d (fun c i=>nK base b k S.fresh m' n x c (a.ax i) f e g))
theorem wJ{S:RS}{n b:Int}{k:Nat}{x:Tg}(g:S.t.length<=1000000000)(f:n-1=(k:Int))(i:S.t[k]?=some x)(e:kZ x S.day≠0):jP S (jd n b) S.fresh (dm 0 0 0 0 0) (kZ x S.day):=fun base c m w h =>
 nC base c S S.fresh m (jd n b) _ w h rfl (fun l m' a=>qY a e (fun d j=>nK base c k S.fresh m' n x d (a.ax j) g f i))
theorem uM{S:RS}{n b:Int}{k:Nat}{x:Tg}(o:S.t.length<=1000000000)(l:n-1=(k:Int))(p:S.t[k]?=some x)(i:kZ x S.day=0)(j:cZ b=false):jP S (jd n b) S.fresh (dm 0 0 0 0 0) 4:=fun base c m w h =>
 nC base c S S.fresh m (jd n b) _ w h rfl (fun d m' a=>(Fg base c k S.fresh m' (jd n b) x d a o rfl l p i j).mono (fun e w' ⟨f,g⟩=>⟨f,(iZ.refl a).ext g⟩))
theorem BI{S:RS}{n b:Int}{k:Nat}{x:Tg}(i:S.t.length<=1000000000)(g:n-1=(k:Int))(j:S.t[k]?=some x)(e:kZ x S.day=0)(f:cZ b=true):jP S (jd n b) (S.fresh.uy k x b) (dm 0 0 0 0 0) 0:=fun base a m w h =>
 nC base a S _ m (jd n b) _ w h rfl (fun c m' d=>AP base a k S.fresh m' (jd n b) x c d i (by show 0<1000000000;omega) rfl g j e f)
theorem JP{S:RS}{n:Int}{again:Bool}{k a b:Nat}{x:Tg}(o:S.t.length<=1000000000)(p:S.l.length<=1000)(j:n-1=(k:Int))(q:S.t[k]?=some x)(f:kZ x S.day=0)(g:iU S.l x.t.lF=some a)(i:iU S.l x.t.dZ=some b):jP S (sN n again) (S.fresh.NQ k x a b again) (dm 0 0 0 0 0) 0:=fun base c m w h =>
 vV base c S _ m (sN n again) _ w h rfl (fun d m' e=>IB base c k S.fresh m' (sN n again) x d e o (by show 0<1000000000;omega) p a b g i rfl j q f)
theorem GU{S:RS}(d:S.l.length<=1000):jP S zI S.fresh.nU (dm 0 0 0 0 0) 0:=fun base a m w h =>
 IL base a S _ m zI w h rfl (fun b m' c=>La base a S.fresh m' b c d (by show 0<1000000000;omega))
end Go.Proofs.YtigaphnafnpfnaaGreatDoor
