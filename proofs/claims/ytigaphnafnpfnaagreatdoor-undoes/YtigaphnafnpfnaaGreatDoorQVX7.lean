import Derived.Test.YtigaphnafnpfnaaGreatDoorQVX4
set_option linter.unusedVariables false
set_option linter.unusedSimpArgs false
set_option maxHeartbeats 8000000
set_option maxRecDepth 100000
namespace Go.Proofs.YtigaphnafnpfnaaGreatDoor
open Go.RowKit
attribute [local go_sem ↓] Go.wp_at_zero Go.wp_at_succ
def SF(sb:Nat)(m:SM)(b:Nat):Prop:=b=sb\/m.yv.ownBlock=some b\/m.lv.ownBlock=some b\/m.tv.ownBlock=some b\/m.ov.ownBlock=some b
theorem dF.gZ{w:World}{base d:Nat}{S:RS}{m:SM}(h:dF w base d S m){b:Nat}(a:SF d m b):∃cs t,au w b cs t/\(t=207\/t=9\/t=212\/t=210\/t=62):=by
 rcases a with rfl | a | a | a | a
 ·exact⟨_,_,h.ay,.inl rfl⟩
 ·obtain⟨cs,c⟩:=aF h.mZ a;exact⟨cs,_,c,.inr (.inl rfl)⟩
 ·obtain⟨cs,c⟩:=aF h.dV a;exact⟨cs,_,c,jL rfl⟩
 ·obtain⟨cs,c⟩:=aF h.dJ a;exact⟨cs,_,c,iQ rfl⟩
 ·obtain⟨cs,c⟩:=aF h.lZ a;exact⟨cs,_,c,xA rfl⟩
theorem dF.lt{w:World}{base c:Nat}{S:RS}{m:SM}(h:dF w base c S m){b:Nat}(a:SF c m b):base<=b/\b<w.heap.size:=by
 obtain⟨cs,t,d,_⟩:=h.gZ a;refine⟨?_,d.lt⟩;rcases a with rfl | a | a | a | a
 ·exact h.ge
 ·exact (h.mZ.lt _ a).1
 ·exact (h.dV.lt _ a).1
 ·exact (h.dJ.lt _ a).1
 ·exact (h.lZ.lt _ a).1
theorem dF.ne{w:World}{base g:Nat}{S:RS}{m:SM}(h:dF w base g S m){b:Nat}{c:Array Value}{t:TypeId}(f:au w b c t)(a:t≠207/\t≠9/\t≠212/\t≠210/\t≠62):¬SF g m b:=by
 intro j;obtain⟨cs,k,d,i⟩:=h.gZ j;unfold au at f d;rw[f]at d;simp only[Option.some.injEq,Obj.cells.injEq]at d;obtain⟨_,e,_⟩:=d;subst e;rcases i with e | e | e | e | e
 ·exact a.1 e
 ·exact a.2.1 e
 ·exact a.2.2.1 e
 ·exact a.2.2.2.1 e
 ·exact a.2.2.2.2 e
def iZ(base sb:Nat)(S':RS)(m:SM)(w w':World):Prop:=∃m',dF w' base sb S' m'/\(∀b,SF sb m' b->SF sb m b\/w.heap.size<=b)/\aj (SF sb m) w w'
theorem iZ.refl{base a:Nat}{S:RS}{m:SM}{w:World}(h:dF w base a S m):iZ base a S m w w:=⟨m,h,fun b c=>.inl c,aj.refl _ _⟩
theorem iZ.ext{base a:Nat}{S:RS}{m:SM}{w w' b:World}(h:iZ base a S m w w')(k:aj aA w' b):iZ base a S m w b:=by
 obtain⟨m',c,d,e⟩:=h;exact⟨m',c.ax k,d,e.trans k.aP⟩
theorem bK{w w':World}{base e size n:Nat}{v:Value}{d:List Value}{S:Nat->Prop}{t:TypeId}(h:w.ownsRow base e size v n d)(k:aj S w w')(f:∀b,S b->∃c a,au w b c a/\a≠e):w'.ownsRow base e size v n d :=
 aB h k (fun b g hs=>by
  obtain⟨c,a,i,l⟩:=f b hs;obtain⟨cs,j⟩:=aF h g;exact au.ne i j l rfl)
theorem dF.iW{w:World}{base n g c i j:Nat}{S:RS}{m:SM}(h:dF w base n S m)(k:m.lv=.slice (some ⟨g,0,none⟩) S.l.length c)(z:i<S.l.length)(A:j<13)(a:Value)(y:Ord)(B:uN y=(uN (ak S.l i)).set j a) :
 dF (w.setCell ⟨g,i * 13+j,none⟩ a) base n { S with l:=S.l.set i y } m/\aj (SF n m) w (w.setCell ⟨g,i * 13+j,none⟩ a):=by
 have r:=h.dV;rw[k]at r;have o:au w g _ 212:=(aF r (b:=g) rfl).choose_spec;have d:aj (fun b=>b=g) w (w.setCell ⟨g,i * 13+j,none⟩ a):=(aj.refl (fun b=>b=g) w).setCell (p:=⟨g,i * 13+j,none⟩) (.inl rfl) _;have ty:∀e,e≠212->∀b,b=g->∃c s,au w b c s/\s≠e:=fun e v b f=>by subst f;exact⟨_,_,o,fun x=>v x.symm⟩
 refine⟨⟨h.ge,d.ay h.ay (fun e=>au.ne h.ay o (by decide) e),bK (t:=0) h.mZ d (ty _ (by decide)),?_,bK (t:=0) h.dJ d (ty _ (by decide)),bK (t:=0) h.lZ d (ty _ (by decide))⟩,d.mono (fun b f=>by subst f;exact jL (by rw[k];rfl))⟩;have q:=(r.stored (i * 13+j) a).1;have u:(yH S.l).set (i * 13+j) a=yH (S.l.set i y):=zX uN 13 Az S.l i j _ y a (lM z) A B;rw[u]at q;rw[k];simp only[List.length_set];exact q
def RS.Jg(S:RS)(kind:Int)(t:Tr):RS:={ S with told:=S.told++[⟨0,kind,t⟩] }
def TK(base sb:Nat)(S':RS)(m:SM)(w w':World):Prop:=∃ov,dF w' base sb S' { m with ov:=ov }/\(∀b,ov.ownBlock=some b->m.ov.ownBlock=some b\/w.heap.size<=b)/\aj (SF sb m) w w'
theorem TK.stN{base c:Nat}{S':RS}{m:SM}{w w':World}(h:TK base c S' m w w'):iZ base c S' m w w':=by
 obtain⟨ov,d,e,f⟩:=h;refine⟨_,d,fun b a=>?_,f⟩;rcases a with rfl | a | a | a | a
 ·exact .inl (.inl rfl)
 ·exact .inl (.inr (.inl a))
 ·exact .inl (jL a)
 ·exact .inl (iQ a)
 ·exact (e b a).imp_left (fun g=>xA g)
theorem TK.pre{base a:Nat}{S':RS}{m:SM}{c w w':World}(k:aj aA c w)(h:TK base a S' m w w'):TK base a S' m c w':=by
 obtain⟨ov,d,e,f⟩:=h;exact⟨ov,d,fun b g=>(e b g).imp_right (fun i=>Nat.le_trans k.size i),k.aP.trans f⟩
theorem dF.LG{d w2:World}{base c n H g cap:Nat}{S:RS}{m:SM}{r:Rc}(h:dF d base c S m)(A:S.told.length=n)(hown:w2.ownsRow base 62 9 (.slice (some ⟨g,0,none⟩) (n+1) cap) (n+1) (gm S.told++r.cells))(s:d.grownBy w2 m.ov.ownBlock)(z:m.ov.ownBlock=some g\/g=H)(hH:d.heap.size=H) :
 TK base c { S with told:=S.told++[r] } m d (w2.setCell ⟨c,5,none⟩ (.slice (some ⟨g,0,none⟩) (n+1) cap)):=by
 have B:m.ov.ownBlock≠some c:=fun e=>by obtain⟨cs,i⟩:=aF h.lZ e;exact au.ne i h.ay (by decide) rfl
 have f:au w2 c _ 207:=(s.block c h.ay.lt (fun e=>B e.symm)).trans h.ay;have u:aj (fun b=>m.ov.ownBlock=some b) d w2:=(aj.refl _ d).grown s (fun k e=>.inl e);have j:aj (fun b=>b=c) w2 (w2.setCell ⟨c,5,none⟩ (.slice (some ⟨g,0,none⟩) (n+1) cap)):=(aj.refl (fun b=>b=c) w2).setCell (p:=⟨c,5,none⟩) (.inl rfl) _;have l:∀{e size o:Nat} {v:Value} {q:List Value},d.ownsRow base e size v o q->e≠62->e≠207->(w2.setCell ⟨c,5,none⟩ (.slice (some ⟨g,0,none⟩) (n+1) cap)).ownsRow base e size v o q:=fun {e size o v q} r w y=>by
  have C:=bK (t:=0) r u (fun b a=>by obtain⟨cs,i⟩:=aF h.lZ a;exact⟨cs,_,i,fun x=>w x.symm⟩);exact bK (t:=0) C j (fun b a=>by subst a;exact⟨_,_,f,fun x=>y x.symm⟩)
 refine⟨.slice (some ⟨g,0,none⟩) (n+1) cap,⟨h.ge,f.set 5 _,l h.mZ (by decide) (by decide),l h.dV (by decide) (by decide),l h.dJ (by decide) (by decide),?_⟩,?_,?_⟩
 ·simp only[List.length_append,List.length_cons,List.length_nil,A,rD];exact bK (t:=0) hown j (fun b a=>by subst a;exact⟨_,_,f,by decide⟩)
 ·intro b a;simp only[Value.ownBlock,Option.some.injEq]at a;rcases z with e | e
  ·exact .inl (by rw[e,a])
  ·right;omega
 ·exact (u.mono (fun b a=>xA a)).trans (j.mono (fun b a=>.inl a))
theorem xe(base a:Nat)(S:RS)(m:SM)(c:Int)(t:Tr)(w:World)(h:dF w base a S m)(hlen:S.told.length<1000000000) :
 CT 205 #[PP a,II c,t.val] w fun e w'=>e=.returned (.tuple #[])/\TK base a (S.Jg c t) m w w':=by
 obtain⟨n,G⟩:=dQ S.told.length;have s:=h.lZ;rw[G]at s hlen;obtain⟨I,J,A⟩:=aJ s;rw[A]at s;have H:=h.ay;have v5:CC w a 5 (.slice I n J):=(H.cell 5).trans (by rw[<-A];rfl);have lv:=H.lt;have hge:=h.ge;have hmx:n+1<=maxLen:=by unfold maxLen;omega
 have lH:(n+1) * 80<=140737488355328:=by omega
 obtain⟨i0,z0,hi0,hz0,hz1,hz2,hz3⟩:=lX;obtain⟨i,k,tp,tq,d,l,f⟩:=t;simp only[Tr.val];obtain⟨o,u⟩:=gy (w.alloc (.cells #[II i,.string k,II tp,II tq,II d,II l,II f] 56));have y:aj aA w o:=by rw[u];exact (aj.refl aA w).alloc _
 have L:au o w.heap.size #[II i,.string k,II tp,II tq,II d,II l,II f] 56:=by rw[u];exact au.new _ _ _
 have R:o.heap.size=w.heap.size+1:=by rw[u];simp
 have P:=aB s y (fun _ _ x=>x);have v5':CC o a 5 (.slice I n J):=y.cell v5 idd;obtain⟨t0,t1,t2,t3,t4,t5,t6⟩:=L.c7;obtain⟨K,v⟩:=gy ((o.alloc (.cells #[II 0,II c,II i,.string k,II tp,II tq,II d,II l,II f] 62)).drew);have B:aj aA o K:=by rw[v];exact ((aj.refl aA o).alloc _).drew
 have Q:=aB P B (fun _ _ x=>x);have T:K.heap.size=w.heap.size+2:=by rw[v];simp[R]
 have hnews:∀j p,(Rc.cells ⟨0,c,⟨i,k,tp,tq,d,l,f⟩⟩)[j]?=some p->K.cell? (Addr.add ⟨w.heap.size+1,0,none⟩ j)=some p:=by
  intro j p hj;have:=MW o ⟨0,c,⟨i,k,tp,tq,d,l,f⟩⟩ j p hj;rw[R]at this;rw[v];exact this
 have hone:∀p∈Rc.cells ⟨0,c,⟨i,k,tp,tq,d,l,f⟩⟩,p.oneCell'=true:=by simp[Rc.cells,Value.oneCell']
 have M:=(h.ax y).ax B;obtain⟨HR,Y,CE,z,q,C,HW,HW1⟩:=Ha Q hnews hone T M A u v;have hne:w.heap.size≠a:=by omega
 obtain⟨W,X⟩:=aZ (y.trans B) G;clear s h A P u L v5 Q hnews hone v T M y B G H;go_enter Tryz.func205,Tryz.ntmps205;go_wp2;rw[<-ae HW];go_region_law (first | (rw[<-ae HW1];refine step_append_lies _ rfl (.tmp 10) (.tmp 14) 34 rfl base 62 i0 z0 9 80 Tryz.underlying34 hi0 hz0 hz1 hz2 hz3 (by decide) (.slice I n J) n (gm S.told) rfl (ae HR) ⟨w.heap.size+1,0,none⟩ 1 1 (Rc.cells ⟨0,c,⟨i,k,tp,tq,d,l,f⟩⟩) rfl rfl (ae Y) (ae CE) (by omega) hmx lH (by have:=ae z;omega) (w.heap.size+2) (ae z) ?_;intro g cap w2 O F N hlt;have Z:=ai O;have V:=ai F;have U:=ai N;have E:au w2 a _ 207:=(F.block a (ae q).ay.lt (fun e=>by obtain⟨cs,hc⟩:=aF (ae q).lZ (b:=a) (by rw[ae C];exact e.symm);exact au.ne hc (ae q).ay (by decide) rfl)).trans (ae q).ay;have v52:=E.cell 5;have f52:=E.frozen 5;simp at v52;clear O F N E))
 all_goals
  go_end0;have D:=(ae q).LG (r:=⟨0,c,⟨i,k,tp,tq,d,l,f⟩⟩) (ae X) (ae Z) (by rw[ae C];exact ae V) (by rw[ae C];exact ae U) (ae z);obtain⟨m',D,a2,a3⟩:=D;exact⟨rfl,m',D,fun b hb=>(a2 b hb).imp_right (fun h=>by have:=ae z;omega),(ae W).aP.trans a3⟩
theorem Ba(base a:Nat)(S:RS)(m:SM)(b:Int)(t:Tr)(w:World)(h:dF w base a S m)(f:S.told.length<1000000000) :
 CT 205 #[PP a,II b,t.val] w fun e w'=>e=.returned (.tuple #[])/\iZ base a (S.Jg b t) m w w' :=
 (xe base a S m b t w h f).mono (fun e w' ⟨c,d⟩=>⟨c,d.stN⟩)
def vZ(om:Nat->Ord)(h:Nat->Nat)(o:iR):Nat->Int
 | 0=>0
 | k+1=>vZ om h o k+(if (om (h k)).aG≠o.aG/\iC o.kind o.side o.af (om (h k)).af=true then (om (h k)).aH else 0)
theorem SV(om:Nat->Ord)(h:Nat->Nat)(o:iR)(n:Nat)(a:∀k,k<n->0<=(om (h k)).aH/\(om (h k)).aH<=1000000000000000):∀k,k<=n->0<=vZ om h o k/\vZ om h o k<=k * 1000000000000000
 | 0,_=>by simp[vZ]
 | k+1,hk=>by
   have b:=SV om h o n a k (by omega);have c:=a k (by omega);unfold vZ;split <;> (push_cast;omega)
theorem U7(s:Nat)(w:World)(hs:s<2):CT 154 #[II (1-(s:Int))] w fun e w'=>e=.returned (II (s:Int))/\w'=w:=by
 have:=mV (1-(s:Int)) w (by omega) (by omega)
 rwa [show (1:Int)-(1-s)=s from by omega]at this
theorem Lt(K s:Nat)(B:Bk)(om:Nat->Ord)(o:iR)(w:World)(l:bM w K B om)(hs:s<2)(O:o.side=1-(s:Int))(P:∀k,k<B.n s->0<=(om (B.h s k)).aH/\(om (B.h s k)).aH<=1000000000000000) :
 CT 147 #[PP K,o.val] w fun e w'=>e=.returned (II (vZ om (B.h s) o (B.n s)))/\aj aA w w':=by
 obtain⟨M,L,hn⟩:=(l.side s hs).vU;have hlt:=l.ay.lt;have X:=l.GI hs;clear l;generalize B.sl s=sl at *;generalize B.cap s=cap at *;generalize hnn:B.n s=n at *;generalize hhh:B.h s=h at *;clear hnn hhh;obtain⟨U,T,A⟩:=fK M L P;clear M L P;have hs0:(0:Int)<=s:=by omega
 have hs2:(s:Int)<2:=by omega
 obtain⟨id,b,sym,side,c,af,az⟩:=o;simp only at O;subst O;simp only[iR.val];go_enter Tryz.func147,Tryz.ntmps147;go_wp2;go_quiet ((go_at_call 154;exact Calls.quiet_of_same (U7 _ _ hs)));go_wp2;obtain⟨z,m⟩:=gy ((w.alloc (.cells #[II id,II b,.string sym,II (1-(s:Int)),II c,II af,II az] 52)).drewN nq);rw[<-m];have r:Hid (aj aA w z):=by rw[m];exact ((aj.refl _ w).alloc _).drewN _
 have q:Hid (au z w.heap.size #[II id,II b,.string sym,II (1-(s:Int)),II c,II af,II az] 52):=by rw[m];exact (au.new w _ _).drewN _
 clear m X;obtain⟨d,y⟩:=dQ (1-(s:Int));rw[y]at q ⊢;have V:=ai y;clear y;obtain⟨H,hH⟩:=dQ w.heap.size;rw[hH]at q ⊢;have HH:=ai hH;clear hH;go_loopg [5,7,17] n (fun k sv _ iv wr=>∃i:Nat,iv=II (i:Int)/\i<=n/\k=n-i/\sv=II (vZ om h ⟨id,b,sym,d,c,af,az⟩ i)/\aj aA z wr)
 case atStart=>exact⟨0,rfl,Nat.zero_le _,rfl,rfl,aj.refl _ _⟩
 case round =>
  obtain⟨i,rfl,Y,hgk,rfl,g⟩:=hrel;by_cases v:i<n
  ·obtain⟨f,rfl,XB⟩:∃f,sl=some ⟨f,0,none⟩/\wr.cell? ⟨f,i,none⟩=some (PP (h i)):=by
    rcases ae U with⟨_,h0,_⟩ | ⟨f,e,_,W⟩
    ·omega
    ·exact⟨f,e,g.cell (p:=⟨f,i,none⟩) ((ae r).cell (p:=⟨f,i,none⟩) (W i v) idd) idd⟩
   obtain⟨ix,j⟩:=ae T i v;have j:=g.ay ((ae r).ay j idd) idd;have N:=g.ay (ae q) idd;have hbd:=SV om h ⟨id,b,sym,d,c,af,az⟩ n (ae A) i Y;have hob:=ae A i v;have u:Hid (vZ om h ⟨id,b,sym,d,c,af,az⟩ (i+1)=vZ om h ⟨id,b,sym,d,c,af,az⟩ i+(if (om (h i)).aG≠b/\iC c d af (om (h i)).af=true then (om (h i)).aH else 0)):=rfl;generalize h i=x at *;generalize hS:vZ om h ⟨id,b,sym,d,c,af,az⟩ i=S at *;clear hS;have Q:CC wr x 1 (II (om x).aG):=j.cell 1;have R:CC wr x 5 (II (om x).af):=j.cell 5;have o8:CC wr x 8 (II (om x).aH):=j.cell 8;obtain⟨C,D,E,F,G,I,J⟩:=N.c7;have HI:=ai j;clear j N;by_cases hown:(om x).aG=b
   ·have Z:((om x).aG != b)=false:=by simp[hown]
    have t:=ai hown;clear hown;go_wp2;go_quiet (fail);go_wp2;go_roundg (n-(i+1))
    case measure=>omega
    case rel=>exact⟨i+1,by push_cast;rfl,by omega,rfl,by rw[ae u,if_neg (fun h=>h.1 (ae t)),Int.add_zero],g.drewN _⟩
   ·have Z:((om x).aG != b)=true:=by simp[hown]
    have t:=ai hown;clear hown;cases GG:iC c d af (om x).af
    ·go_wp2;go_region_held3 (fun w'=>w'.cell? ⟨H,0,none⟩=some (II id)/\w'.cell? ⟨H,1,none⟩=some (II b)/\w'.cell? ⟨H,2,none⟩=some (.string sym)/\w'.cell? ⟨H,3,none⟩=some (II d)/\w'.cell? ⟨H,4,none⟩=some (II c)/\w'.cell? ⟨H,5,none⟩=some (II af)/\w'.cell? ⟨H,6,none⟩=some (II az)/\w'.cell? ⟨x,1,none⟩=some (II (om x).aG)/\w'.cell? ⟨x,5,none⟩=some (II (om x).af)) (go_keep)
      (first | (go_at_call 155;refine (qH ⟨id,b,sym,d,c,af,az⟩ _ _).mono ?_;rintro e w3 ⟨rfl,a⟩;rw[GG];have k0:=a.cell (p:=⟨H,0,none⟩) C idd;have k1:=a.cell (p:=⟨H,1,none⟩) D idd;have k2:=a.cell (p:=⟨H,2,none⟩) E idd;have k3:=a.cell (p:=⟨H,3,none⟩) F idd;have k4:=a.cell (p:=⟨H,4,none⟩) G idd;have k5:=a.cell (p:=⟨H,5,none⟩) I idd;have k6:=a.cell (p:=⟨H,6,none⟩) J idd;have k7:=a.cell (p:=⟨x,1,none⟩) Q idd;have k8:=a.cell (p:=⟨x,5,none⟩) R idd))
     go_wp2;go_roundg (n-(i+1))
     case measure=>omega
     case rel=>exact⟨i+1,by push_cast;rfl,by omega,rfl,by rw[ae u,if_neg (fun h=>by have:=h.2;rw[GG]at this;cases this),Int.add_zero],aj.trans (by repeat (first | exact g | refine aj.drewN ?_ _ | refine aj.drew ?_)) a⟩
    ·have hwr:wrap64 (S+(om x).aH)=S+(om x).aH:=aU (by omega) (by omega);go_wp2;go_region_held3 (fun w'=>w'.cell? ⟨H,0,none⟩=some (II id)/\w'.cell? ⟨H,1,none⟩=some (II b)/\w'.cell? ⟨H,2,none⟩=some (.string sym)/\w'.cell? ⟨H,3,none⟩=some (II d)/\w'.cell? ⟨H,4,none⟩=some (II c)/\w'.cell? ⟨H,5,none⟩=some (II af)/\w'.cell? ⟨H,6,none⟩=some (II az)/\w'.cell? ⟨x,1,none⟩=some (II (om x).aG)/\w'.cell? ⟨x,5,none⟩=some (II (om x).af)) (go_keep)
      (first | (go_at_call 155;refine (qH ⟨id,b,sym,d,c,af,az⟩ _ _).mono ?_;rintro e w3 ⟨rfl,a⟩;rw[GG];have k0:=a.cell (p:=⟨H,0,none⟩) C idd;have k1:=a.cell (p:=⟨H,1,none⟩) D idd;have k2:=a.cell (p:=⟨H,2,none⟩) E idd;have k3:=a.cell (p:=⟨H,3,none⟩) F idd;have k4:=a.cell (p:=⟨H,4,none⟩) G idd;have k5:=a.cell (p:=⟨H,5,none⟩) I idd;have k6:=a.cell (p:=⟨H,6,none⟩) J idd;have k7:=a.cell (p:=⟨x,1,none⟩) Q idd;have k8:=a.cell (p:=⟨x,5,none⟩) R idd;have k9:=a.cell (p:=⟨x,8,none⟩) o8 idd))
     go_wp2;go_roundg (n-(i+1))
     case measure=>omega
     case rel=>exact⟨i+1,by push_cast;rfl,by omega,rfl,by rw[ae u,if_pos ⟨ae t,GG⟩],aj.trans (by repeat (first | exact g | refine aj.drewN ?_ _ | refine aj.drew ?_)) a⟩
  ·obtain rfl:i=n:=by omega
   go_wp2;go_ret;exact⟨by rw[ae V];rfl,(ae r).trans g⟩
open Go.RowKit Go.Maps
theorem Fj(bv u m i s:Nat)(V:aS)(o:iR)(w:World)(R:dL w bv u m V)(H:i<V.nb)(M:(V.B i).sym=o.sym)(K:o.sym.size<=maxLen)
 (E:cZ o.id=true) (F:V.aV o.id=none) (T:mG o.aG=true) (U:jH o.side=true) (W:nI o.kind=true) (X:cZ o.az=true) (Y:jM o.kind o.af=true) (h8:V.no<200) (n:o.kind=4) (hs:s<2) (v:o.side=1-(s:Int)) :
 CT 111 #[PP bv,o.val] w fun e w'=>e=.returned (II (if (dA (V.B i) V.om o s).isSome then 8 else 0))/\aj aA w w':=by
 obtain⟨P,N,C,Q⟩:=R.iM;obtain⟨S,y,D⟩:=R.fA;obtain⟨id,f,sym,side,c,af,az⟩:=o;simp only at M K E F T U W X Y n v;simp only[iR.val];have I:(Lit.int .i64 id).wf=true:=by
  simp[cZ]at E;exact WalkArith.wf_i64 (by omega)
 have J:P (sl sym)=some (V.bk i):=by rw[<-M];exact C i H
 have L:S (.int .i64 id)=none:=by rw[D,F]
 obtain⟨b,r⟩:=gy (w.alloc (.cells #[II id,II f,.string sym,II side,II c,II af,II az] 52));have d:aj aA w b:=by rw[r];exact (aj.refl aA w).alloc _
 have G:au b w.heap.size #[II id,II f,.string sym,II side,II c,II af,II az] 52:=by rw[r];exact au.new w _ _
 have L1:∀q,(Instr.lookup 94 (.map (some u)) (.string sym) false).run Tryz.prog (b.drewN q)=.ok (PP (V.bk i)) (b.drewN q):=fun q=>by
  rw[(N.aC (d.drewN q) idd).look yU Tryz.underlying94 (qA _) (WideMaps.keyOf_string_mk Tryz.underlying9 K)];show _=Result.ok (ja (some (V.bk i))) _;rw[<-J];rfl
 have L2:∀q,(Instr.lookup 95 (.map (some m)) (II id) false).run Tryz.prog (b.drewN q)=.ok (.pointer none) (b.drewN q):=fun q=>by
  rw[(y.aC (d.drewN q) idd).look yT Tryz.underlying95 (wu _) (keyOf_int_mk Tryz.underlying3 I)];show _=Result.ok (ja none) _;rw[<-L]
 have L3:∀q,(Builtin.len_ #[95] 3 #[.map (some m)]).run Tryz.prog (b.drewN q)=.ok (II V.no) (b.drewN q):=fun q=>(y.aC (d.drewN q) idd).len Tryz.underlying95 _
 have v0:CC b bv 0 (.map (some u)):=(d.ay R.cO idd).cell 0;have v1:CC b bv 1 (.map (some m)):=(d.ay R.cO idd).cell 1;obtain⟨x0,x1,x2,x3,O,x5,x6⟩:=G.c7;have e3:(c == 3)=false:=by rw[n];rfl
 have e4:(c == 4)=true:=by rw[n];rfl
 have k:=ai (fun (a:World) (g:bM a (V.bk i) (V.B i) V.om)=>kV (V.bk i) (V.B i) V.om ⟨id,f,sym,side,c,af,az⟩ s a g hs v);have z:=ai (R.aW i H);have e8:decide ((200:Int)<=(V.no:Int))=false:=by simp;omega
 obtain⟨A,l⟩:=aZ r d;clear v r d G n J L C Q D N y I;cases hf:dA (V.B i) V.om ⟨id,f,sym,side,c,af,az⟩ s with
 | none =>
   have t:Hid (∀a,bM a (V.bk i) (V.B i) V.om->CT 123 #[PP (V.bk i),.agg #[II id,II f,.string sym,II side,II c,II af,II az]] a fun e w'=>e=.returned (.pointer none)/\aj aA a w'):=fun a g=>by
    have:=ae k a g;rw[hf]at this;exact this
   clear hf k;go_enter Tryz.func111,Tryz.ntmps111;go_wp2;rw[<-ae A];go_quiet (fail);go_wp2_with (first | (go_at_call 68;refine (bJ _ _).mono ?_;rintro e w' ⟨rfl,rfl⟩) | (go_at_call 144;refine (eF _ _).mono ?_;rintro e w' ⟨rfl,rfl⟩) | (go_at_call 47;refine (eu _ _).mono ?_;rintro e w' ⟨rfl,rfl⟩) | (go_at_call 145;refine (fG _ _).mono ?_;rintro e w' ⟨rfl,rfl⟩) | (go_at_call 146;refine (dI _ _ _).mono ?_;rintro e w' ⟨rfl,rfl⟩));go_quiet (fail);go_wp2_with (first | (go_at_call 123;refine (ae t _ ((ae z).aC ((ae l).drewN _) (fun _ _ x=>x))).mono ?_;rintro e w3 ⟨rfl,j⟩;have Z:=j.cell (p:=⟨w.heap.size,4,none⟩) O idd) | (go_at_call 68;refine (bJ _ _).mono ?_;rintro e w' ⟨rfl,rfl⟩) | (go_at_call 144;refine (eF _ _).mono ?_;rintro e w' ⟨rfl,rfl⟩) | (go_at_call 47;refine (eu _ _).mono ?_;rintro e w' ⟨rfl,rfl⟩) | (go_at_call 145;refine (fG _ _).mono ?_;rintro e w' ⟨rfl,rfl⟩) | (go_at_call 146;refine (dI _ _ _).mono ?_;rintro e w' ⟨rfl,rfl⟩));go_quiet (fail);go_wp2;go_ret;exact⟨rfl,aj.trans (((ae l).drewN _)) (j.drewN _)⟩
 | some x =>
   have t:Hid (∀a,bM a (V.bk i) (V.B i) V.om->CT 123 #[PP (V.bk i),.agg #[II id,II f,.string sym,II side,II c,II af,II az]] a fun e w'=>e=.returned (PP x)/\aj aA a w'):=fun a g=>by
    have:=ae k a g;rw[hf]at this;exact this
   clear hf k;go_enter Tryz.func111,Tryz.ntmps111;go_wp2;rw[<-ae A];go_quiet (fail);go_wp2_with (first | (go_at_call 68;refine (bJ _ _).mono ?_;rintro e w' ⟨rfl,rfl⟩) | (go_at_call 144;refine (eF _ _).mono ?_;rintro e w' ⟨rfl,rfl⟩) | (go_at_call 47;refine (eu _ _).mono ?_;rintro e w' ⟨rfl,rfl⟩) | (go_at_call 145;refine (fG _ _).mono ?_;rintro e w' ⟨rfl,rfl⟩) | (go_at_call 146;refine (dI _ _ _).mono ?_;rintro e w' ⟨rfl,rfl⟩));go_quiet (fail);go_wp2_with (first | (go_at_call 123;refine (ae t _ ((ae z).aC ((ae l).drewN _) (fun _ _ x=>x))).mono ?_;rintro e w3 ⟨rfl,j⟩;have Z:=j.cell (p:=⟨w.heap.size,4,none⟩) O idd) | (go_at_call 68;refine (bJ _ _).mono ?_;rintro e w' ⟨rfl,rfl⟩) | (go_at_call 144;refine (eF _ _).mono ?_;rintro e w' ⟨rfl,rfl⟩) | (go_at_call 47;refine (eu _ _).mono ?_;rintro e w' ⟨rfl,rfl⟩) | (go_at_call 145;refine (fG _ _).mono ?_;rintro e w' ⟨rfl,rfl⟩) | (go_at_call 146;refine (dI _ _ _).mono ?_;rintro e w' ⟨rfl,rfl⟩));go_ret;exact⟨rfl,aj.trans ((ae l).drewN _) j⟩
theorem BZ(bv t j i s:Nat)(V:aS)(o:iR)(w:World)(R:dL w bv t j V)(I:i<V.nb)(O:(V.B i).sym=o.sym)(L:o.sym.size<=maxLen)
 (E:cZ o.id=true) (F:V.aV o.id=none) (h3:mG o.aG=true) (h4:jH o.side=true) (h5:nI o.kind=true) (h6:cZ o.az=true) (h7:jM o.kind o.af=true) (h8:V.no<200) (l:o.kind=3) (hs:s<2) (u:o.side=1-(s:Int)) (N:∀k,k<(V.B i).n s->0<=(V.om ((V.B i).h s k)).aH/\(V.om ((V.B i).h s k)).aH<=1000000000000000) :
 CT 111 #[PP bv,o.val] w fun e w'=>e=.returned (II (if vZ V.om ((V.B i).h s) o ((V.B i).n s)<o.az then 9 else 0))/\aj aA w w':=by
 obtain⟨fB,Q,C,Xk⟩:=R.iM;obtain⟨fO,v,D⟩:=R.fA;obtain⟨id,g,sym,side,d,af,az⟩:=o;simp only at O L E F h3 h4 h5 h6 h7 l u;simp only[iR.val];have J:(Lit.int .i64 id).wf=true:=by
  simp[cZ]at E;exact WalkArith.wf_i64 (by omega)
 have K:fB (sl sym)=some (V.bk i):=by rw[<-O];exact C i I
 have M:fO (.int .i64 id)=none:=by rw[D,F]
 obtain⟨a,m⟩:=gy (w.alloc (.cells #[II id,II g,.string sym,II side,II d,II af,II az] 52));have c:aj aA w a:=by rw[m];exact (aj.refl aA w).alloc _
 have G:au a w.heap.size #[II id,II g,.string sym,II side,II d,II af,II az] 52:=by rw[m];exact au.new w _ _
 have L1:∀q,(Instr.lookup 94 (.map (some t)) (.string sym) false).run Tryz.prog (a.drewN q)=.ok (PP (V.bk i)) (a.drewN q):=fun q=>by
  rw[(Q.aC (c.drewN q) idd).look yU Tryz.underlying94 (qA _) (WideMaps.keyOf_string_mk Tryz.underlying9 L)];show _=Result.ok (ja (some (V.bk i))) _;rw[<-K];rfl
 have L2:∀q,(Instr.lookup 95 (.map (some j)) (II id) false).run Tryz.prog (a.drewN q)=.ok (.pointer none) (a.drewN q):=fun q=>by
  rw[(v.aC (c.drewN q) idd).look yT Tryz.underlying95 (wu _) (keyOf_int_mk Tryz.underlying3 J)];show _=Result.ok (ja none) _;rw[<-M]
 have L3:∀q,(Builtin.len_ #[95] 3 #[.map (some j)]).run Tryz.prog (a.drewN q)=.ok (II V.no) (a.drewN q):=fun q=>(v.aC (c.drewN q) idd).len Tryz.underlying95 _
 have v0:CC a bv 0 (.map (some t)):=(c.ay R.cO idd).cell 0;have v1:CC a bv 1 (.map (some j)):=(c.ay R.cO idd).cell 1;obtain⟨S,T,U,W,X,Y,Z⟩:=G.c7;have e3:(d == 3)=true:=by rw[l];rfl
 have e4:(d == 4)=false:=by rw[l];rfl
 have r:=ai (fun (f:World) (hW:bM f (V.bk i) (V.B i) V.om)=>Lt (V.bk i) s (V.B i) V.om ⟨id,g,sym,side,d,af,az⟩ f hW hs u N);have HBK:=ai (R.aW i I);have e8:decide ((200:Int)<=(V.no:Int))=false:=by simp;omega
 obtain⟨HW,z⟩:=aZ m c;clear N u m c G l K M C Xk D Q v J;have A:Hid (∃y,y=vZ V.om ((V.B i).h s) ⟨id,g,sym,side,d,af,az⟩ ((V.B i).n s)):=⟨_,rfl⟩;obtain⟨y,P⟩:=ae A;rw[<-P]at r ⊢;have HF2:Hid (∀f,(∃q,f=a.drewN q)->CT 147 #[PP (V.bk i),.agg #[II id,II g,.string sym,II side,II d,II af,II az]] f fun e w'=>e=.returned (II y)/\aj aA f w'):=by
  rintro f ⟨q,rfl⟩;exact ae r _ ((ae HBK).aC ((ae z).drewN q) (fun _ _ x=>x))
 clear r A P;go_enter Tryz.func111,Tryz.ntmps111;go_wp2;rw[<-ae HW];go_quiet (fail);go_wp2_with (first | (go_at_call 68;refine (bJ _ _).mono ?_;rintro e w' ⟨rfl,rfl⟩) | (go_at_call 144;refine (eF _ _).mono ?_;rintro e w' ⟨rfl,rfl⟩) | (go_at_call 47;refine (eu _ _).mono ?_;rintro e w' ⟨rfl,rfl⟩) | (go_at_call 145;refine (fG _ _).mono ?_;rintro e w' ⟨rfl,rfl⟩) | (go_at_call 146;refine (dI _ _ _).mono ?_;rintro e w' ⟨rfl,rfl⟩));go_quiet (fail);go_wp2_with (first | (go_at_call 68;refine (bJ _ _).mono ?_;rintro e w' ⟨rfl,rfl⟩) | (go_at_call 144;refine (eF _ _).mono ?_;rintro e w' ⟨rfl,rfl⟩) | (go_at_call 47;refine (eu _ _).mono ?_;rintro e w' ⟨rfl,rfl⟩) | (go_at_call 145;refine (fG _ _).mono ?_;rintro e w' ⟨rfl,rfl⟩) | (go_at_call 146;refine (dI _ _ _).mono ?_;rintro e w' ⟨rfl,rfl⟩));obtain⟨H,hH⟩:=dQ w.heap.size;rw[hH]at S T U W X Y Z ⊢;go_region_held3 (fun w'=>w'.cell? ⟨H,0,none⟩=some (II id)/\w'.cell? ⟨H,1,none⟩=some (II g)/\w'.cell? ⟨H,2,none⟩=some (.string sym)/\w'.cell? ⟨H,3,none⟩=some (II side)/\w'.cell? ⟨H,4,none⟩=some (II d)/\w'.cell? ⟨H,5,none⟩=some (II af)/\w'.cell? ⟨H,6,none⟩=some (II az)) (go_keep)
  (first | (go_at_call 147;refine (ae HF2 _ ⟨_,rfl⟩).mono ?_;rintro e w3 ⟨rfl,b⟩;have k0:=b.cell (p:=⟨H,0,none⟩) S idd;have c:=b.cell (p:=⟨H,1,none⟩) T idd;have k2:=b.cell (p:=⟨H,2,none⟩) U idd;have k3:=b.cell (p:=⟨H,3,none⟩) W idd;have k4:=b.cell (p:=⟨H,4,none⟩) X idd;have k5:=b.cell (p:=⟨H,5,none⟩) Y idd;have k6:=b.cell (p:=⟨H,6,none⟩) Z idd))
 go_wp2
 all_goals (go_ret;exact⟨rfl,aj.trans ((ae z).drewN _) (aj.trans (by repeat (first | exact aj.refl _ _ | refine aj.drewN ?_ _ | refine aj.drew ?_)) b)⟩)
end Go.Proofs.YtigaphnafnpfnaaGreatDoor
