import Derived.Test.YtigaphnafnpfnaaGreatDoorQVX11
import Derived.Test.YtigaphnafnpfnaaGreatDoorQVX6
set_option linter.unusedVariables false
set_option linter.unusedSimpArgs false
set_option maxHeartbeats 8000000
set_option maxRecDepth 100000
namespace Go.Proofs.YtigaphnafnpfnaaGreatDoor
open Go.RowKit
attribute [local go_sem ↓] Go.wp_at_zero Go.wp_at_succ
theorem P7(s:ByteArray)(i:Nat)(h:i<s.size):Gz s i=(s[i]'h).toNat:=by
 show (s.data[i]!).toNat=(s.data[i]'h).toNat;rw[getElem!_pos s.data i h]
theorem OO(s:ByteArray)(i:Nat)(w:World)(n:i<s.size)(hs:s.size<=1000000000) :
 CT 197 #[.string s,II (i:Int)] w fun e w'=>e=.returned (.tuple #[II ((sH s i).1:Int),II ((sH s i).2:Int)])/\w'=w:=by
 have c:=ai (P7 s i n);have h0:(s[i].toNat:Int)<256:=by have:=s[i].toNat_lt;omega
 by_cases d:s[i].toNat<128
 ·have a:Hid (sH s i=(s[i].toNat,1)):=by show _=_;unfold sH;rw[ae c,if_pos d]
  go_enter Tryz.func197,Tryz.ntmps197;go_wp2;go_ret2;exact⟨by rw[ae a];rfl,rfl⟩
 ·by_cases g:i+1<s.size
  ·have f:=ai (P7 s (i+1) g);have o:(s[i+1].toNat:Int)<256:=by have:=s[i+1].toNat_lt;omega
   by_cases b:s[i].toNat=206
   ·have m:((s[i].toNat:Int) == 206)=true:=by simp[b]
    by_cases j:145<=s[i+1].toNat
    ·by_cases k:s[i+1].toNat<=169
     ·have a:Hid (sH s i=(768+s[i+1].toNat,2)):=by show _=_;unfold sH;rw[ae c,if_neg d,ae f,if_pos ⟨g,b,j,k⟩]
      have l:=ai b;clear b;go_enter Tryz.func197,Tryz.ntmps197;go_wp2;go_ret2;refine⟨?_,rfl⟩;rw[ae a];have e:∀x y:Int,x=y->Ending.returned (.tuple #[II x,II 2])=.returned (.tuple #[II y,II 2]):=by rintro _ _ rfl;rfl
      refine e _ _ ?_;have:=ae l;simp only[this];push_cast;omega
     ·have a:Hid (sH s i=(0,1)):=by show _=_;unfold sH;rw[ae c,if_neg d,ae f,if_neg (fun h=>k h.2.2.2)]
      clear b;go_enter Tryz.func197,Tryz.ntmps197;go_wp2;go_ret2;exact⟨by rw[ae a];rfl,rfl⟩
    ·have a:Hid (sH s i=(0,1)):=by show _=_;unfold sH;rw[ae c,if_neg d,ae f,if_neg (fun h=>j h.2.2.1)]
     clear b;go_enter Tryz.func197,Tryz.ntmps197;go_wp2;go_ret2;exact⟨by rw[ae a];rfl,rfl⟩
   ·have m:((s[i].toNat:Int) == 206)=false:=by simp;omega
    have a:Hid (sH s i=(0,1)):=by show _=_;unfold sH;rw[ae c,if_neg d,if_neg (fun h=>b h.2.1)]
    clear b;go_enter Tryz.func197,Tryz.ntmps197;go_wp2;go_ret2;exact⟨by rw[ae a];rfl,rfl⟩
  ·have a:Hid (sH s i=(0,1)):=by show _=_;unfold sH;rw[ae c,if_neg d,if_neg (fun h=>g h.1)]
   go_enter Tryz.func197,Tryz.ntmps197;go_wp2;go_ret2;exact⟨by rw[ae a];rfl,rfl⟩
theorem DJ(s:ByteArray)(w:World)(hs:s.size<=1000000000):CT 166 #[.string s] w fun e w'=>e=.returned (.bool (lL s))/\w'=w:=by
 have F:Hid (∀i,i<s.size->∀j,CT 197 #[.string s,II (i:Int)] j fun e w'=>e=.returned (.tuple #[II ((sH s i).1:Int),II ((sH s i).2:Int)])/\w'=j):=fun i I j=>OO s i j I hs
 go_enter Tryz.func166,Tryz.ntmps166;go_wp2;go_loopg [3,4] (s.size+1) (fun q K J wr=>∃i n:Nat,K=II (n:Int)/\J=II (i:Int)/\wr=w/\mr s q i n=lL s/\s.size<i+q/\n<=i/\i<=s.size)
 case atStart=>exact⟨0,0,rfl,rfl,rfl,rfl,by omega,by omega,by omega⟩
 case round =>
  obtain⟨i,n,rfl,rfl,rfl,g,P,O,N⟩:=hrel;obtain⟨q,rfl⟩:∃q,gk=q+1:=by
   cases gk with
   | zero=>exfalso;omega
   | succ q=>exact⟨q,rfl⟩
  by_cases o:i<s.size
  ·have m:mr s (q+1) i n=(if rV (sH s i).1 then mr s q (i+(sH s i).2) (n+1) else false):=by
    conv=>lhs;unfold mr
    rw[if_pos o]
   obtain⟨y,z,A,C⟩:=MZ s i;have B:=A o;have p:=ai (ae F i o wr);obtain⟨⟨c,k⟩,E⟩:∃x,sH s i=x:=⟨_,rfl⟩;rw[E]at m p y z B C;simp only at m p y z B C;have H:(65<=c/\c<=90/\rV c=true)\/(48<=c/\c<=57/\rV c=true)\/(913<=c/\c<=937/\¬c=930/\rV c=true)\/(c=930/\rV c=false)\/(c<48/\rV c=false)\/(57<c/\c<65/\rV c=false)\/(90<c/\c<913/\rV c=false):=by
    by_cases d:65<=c/\c<=90
    ·left;exact⟨d.1,d.2,by simp[rV,d]⟩
    ·right;by_cases t:48<=c/\c<=57
     ·left;exact⟨t.1,t.2,by simp[rV,t]⟩
     ·right;by_cases l:c=930
      ·right;left;exact⟨l,by subst l;decide⟩
      ·by_cases u:913<=c/\c<=937
       ·left;exact⟨u.1,u.2,l,by simp[rV,u,l]⟩
       ·right;right;have a:rV c=false:=by
         simp only[rV,Bool.or_eq_false_iff,Bool.and_eq_false_iff,decide_eq_false_iff_not,Bool.not_eq_false',beq_iff_eq];omega
        have:c<48\/(57<c/\c<65)\/(90<c/\c<913):=by omega
        rcases this with h | h | h
        ·left;exact⟨h,a⟩
        ·right;left;exact⟨h.1,h.2,a⟩
        ·right;right;exact⟨h.1,h.2,a⟩
   rw[m]at g;have v:=ai g;clear g m E A;rcases H with⟨b,a2,a⟩ | ⟨b,a2,a⟩ | ⟨b,a2,a3,a⟩ | ⟨b,a⟩ | ⟨b,a⟩ | ⟨b,a2,a⟩ | ⟨b,a2,a⟩
   all_goals
    have r:=ae v;rw[a]at r;have f:=ai r;clear r v a
    try (have L:((c:Int) == 930)=false:=by simp;omega)
    try (have G:((c:Int) != 930)=true:=by simp;omega)
    try (have G:((c:Int) != 930)=false:=by simp;omega)
    try (have M:decide ((c:Int)<=90)=false:=by simp;omega)
    try (have f57:decide ((c:Int)<=57)=false:=by simp;omega)
    go_wp2_with fail;refine (ae p).mono ?_;rintro e w2 ⟨rfl,rfl⟩;go_wp2
    first
     | (go_ret
        exact⟨by rw[<-ae f];rfl,rfl⟩)
     | (go_roundg q
        case measure=>omega
        case rel=>exact⟨i+k,n+1,by push_cast;rfl,by push_cast;rfl,rfl,ae f,by omega,by omega,by omega⟩)
  ·have D:lL s=(decide (1<=n) && decide (n<=6)):=by
    rw[<-g];unfold mr;rw[if_neg o]
   have f:=ai D;clear g D;by_cases d:1<=n
   ·go_wp2;go_ret;refine⟨?_,rfl⟩;rw[ae f,decide_eq_true d,Bool.true_and]
    first | (simp;done) | (simp;omega)
   ·go_wp2;go_ret;refine⟨?_,rfl⟩;rw[ae f,decide_eq_false d,Bool.false_and]
    rfl
open Go.RowKit Go.Maps
theorem sZ(o:iR)(b uj a qG whole:Bool) :
 (cZ o.id=false/\dw o b uj a qG whole=1)\/(cZ o.id=true/\b=true/\dw o b uj a qG whole=2)\/(cZ o.id=true/\b=false/\(
 (mG o.aG=false/\dw o b uj a qG whole=4)\/(mG o.aG=true/\jH o.side=false/\dw o b uj a qG whole=4)\/(mG o.aG=true/\jH o.side=true/\(
 (nI o.kind=false/\dw o b uj a qG whole=5)\/(nI o.kind=true/\(
 (cZ o.az=false/\dw o b uj a qG whole=4)\/(cZ o.az=true/\jM o.kind o.af=false/\dw o b uj a qG whole=4)\/(cZ o.az=true/\jM o.kind o.af=true/\(
 (uj=false/\dw o b uj a qG whole=6)\/(uj=true/\a=true/\dw o b uj a qG whole=7)\/(uj=true/\a=false/\dw o b uj a qG whole=if o.kind=4/\qG=true then 8 else if o.kind=3/\whole=true then 9 else 0))))))))):=by
 unfold dw;cases cZ o.id <;> cases b <;> cases mG o.aG <;> cases jH o.side <;> cases nI o.kind <;> cases cZ o.az <;> cases jM o.kind o.af <;> cases uj <;> cases a <;> simp
theorem BX(bv x r:Nat)(V:aS)(o:iR)(w:World)(R:dL w bv x r V)(U:o.sym.size<=maxLen)(A:(Lit.int .i64 o.id).wf=true)(qG whole uj:Bool)(W:(uj=true/\∃i,i<V.nb/\(V.B i).sym=o.sym)\/(uj=false/\∀i,i<V.nb->(V.B i).sym≠o.sym))
 (d:uj=false\/200<=V.no\/dw o (V.aV o.id).isSome uj (decide (200<=V.no)) qG whole≠if o.kind=4/\qG=true then 8 else if o.kind=3/\whole=true then 9 else 0) :
 CT 111 #[PP bv,o.val] w fun e w'=>e=.returned (II (dw o (V.aV o.id).isSome uj (decide (200<=V.no)) qG whole))/\aj aA w w':=by
 obtain⟨I,Y,J,K⟩:=R.iM;obtain⟨fO,G,L⟩:=R.fA;have k:=sZ o (V.aV o.id).isSome uj (decide (200<=V.no)) qG whole;obtain⟨E,Q⟩:=dQ (dw o (V.aV o.id).isSome uj (decide (200<=V.no)) qG whole);rw[Q]at k d ⊢;obtain⟨f,D,j⟩:∃f,I (sl o.sym)=f/\((uj=true/\∃b,f=some b)\/(uj=false/\f=none)):=by
  refine⟨_,rfl,?_⟩;rcases W with⟨F,i,z,hs⟩ | ⟨F,hn⟩
  ·left;exact⟨F,V.bk i,by rw[<-hs];exact J i z⟩
  ·right;refine⟨F,?_⟩;cases a:I (sl o.sym) with
   | none=>rfl
   | some b=>obtain⟨i,z,_,e⟩:=K _ _ a;exact absurd e (hn i z)
 obtain⟨m,hoO⟩:=dQ (V.aV o.id);have C:fO (.int .i64 o.id)=m:=by rw[L,hoO]
 rw[hoO]at k;obtain⟨id,Z,sym,side,X,af,az⟩:=o;simp only at U A D C k d;simp only[iR.val];obtain⟨c,t⟩:=gy (w.alloc (.cells #[II id,II Z,.string sym,II side,II X,II af,II az] 52));have l:aj aA w c:=by rw[t];exact (aj.refl aA w).alloc _
 have T:au c w.heap.size #[II id,II Z,.string sym,II side,II X,II af,II az] 52:=by rw[t];exact au.new w _ _
 have H:∀q,(Instr.lookup 94 (.map (some x)) (.string sym) false).run Tryz.prog (c.drewN q)=.ok (ja f) (c.drewN q):=fun q=>by
  rw[(Y.aC (l.drewN q) idd).look yU Tryz.underlying94 (qA _) (WideMaps.keyOf_string_mk Tryz.underlying9 U)];show _=Result.ok (ja f) _;rw[<-D];rfl
 have u:∀q,(Instr.lookup 95 (.map (some r)) (II id) false).run Tryz.prog (c.drewN q)=.ok (ja m) (c.drewN q):=fun q=>by
  rw[(G.aC (l.drewN q) idd).look yT Tryz.underlying95 (wu _) (keyOf_int_mk Tryz.underlying3 A)];show _=Result.ok (ja m) _;rw[<-C]
 have v:∀q,(Builtin.len_ #[95] 3 #[.map (some r)]).run Tryz.prog (c.drewN q)=.ok (II V.no) (c.drewN q):=fun q=>(G.aC (l.drewN q) idd).len Tryz.underlying95 _
 have v0:CC c bv 0 (.map (some x)):=(l.ay R.cO idd).cell 0;have v1:CC c bv 1 (.map (some r)):=(l.ay R.cO idd).cell 1;obtain⟨x0,x1,x2,x3,x4,x5,x6⟩:=T.c7;obtain⟨p,n⟩:=aZ t l;obtain⟨N,S⟩:=dQ V.no;rw[S]at k d v;clear t l T D C J K L Y G A Q hoO W R S;rcases k with⟨M,rfl⟩ | ⟨M,y,rfl⟩ | ⟨M,y,k⟩
 ·clear d j u v;go_enter Tryz.func111,Tryz.ntmps111;go_wp2;rw[<-ae p];go_quiet (fail);go_wp2_with (first | (go_at_call 68;refine (bJ _ _).mono ?_;rintro e w' ⟨rfl,rfl⟩));go_ret;exact⟨rfl,(ae n).drewN _⟩
 ·obtain⟨b,rfl⟩:∃b,m=some b:=by cases m <;> simp at y ⊢
  simp only[ja]at u;clear d j v;go_enter Tryz.func111,Tryz.ntmps111;go_wp2;rw[<-ae p];go_quiet (fail);go_wp2_with (first | (go_at_call 68;refine (bJ _ _).mono ?_;rintro e w' ⟨rfl,rfl⟩));go_quiet (fail);go_wp2;go_ret;exact⟨rfl,((ae n).drewN _).drewN _⟩
 ·obtain rfl:m=none:=by cases m <;> simp at y ⊢
  simp only[ja]at u;rcases k with⟨O,rfl⟩ | ⟨O,h4,rfl⟩ | ⟨O,h4,⟨h5,rfl⟩ | ⟨h5,⟨P,rfl⟩ | ⟨P,h7,rfl⟩ | ⟨P,h7,⟨g,rfl⟩ | ⟨g,s,rfl⟩ | ⟨g,s,rfl⟩⟩⟩⟩
  case inr.inr.inr.inr.inr.inr.inr.inr.inl =>
   obtain⟨b,rfl⟩:∃b,f=some b:=by
    rcases j with⟨_,a⟩ | ⟨a,_⟩
    ·exact a
    ·rw[g]at a;exact absurd a (by decide)
   have e8:decide ((200:Int)<=(N:Int))=true:=by simp at s ⊢;omega
   simp only[ja]at H;clear d j s g;go_enter Tryz.func111,Tryz.ntmps111;go_wp2;rw[<-ae p];go_quiet (fail);go_wp2_with (first | (go_at_call 68;refine (bJ _ _).mono ?_;rintro e w' ⟨rfl,rfl⟩) | (go_at_call 144;refine (eF _ _).mono ?_;rintro e w' ⟨rfl,rfl⟩) | (go_at_call 47;refine (eu _ _).mono ?_;rintro e w' ⟨rfl,rfl⟩) | (go_at_call 145;refine (fG _ _).mono ?_;rintro e w' ⟨rfl,rfl⟩) | (go_at_call 146;refine (dI _ _ _).mono ?_;rintro e w' ⟨rfl,rfl⟩));go_quiet (fail);go_wp2_with (first | (go_at_call 68;refine (bJ _ _).mono ?_;rintro e w' ⟨rfl,rfl⟩) | (go_at_call 144;refine (eF _ _).mono ?_;rintro e w' ⟨rfl,rfl⟩) | (go_at_call 47;refine (eu _ _).mono ?_;rintro e w' ⟨rfl,rfl⟩) | (go_at_call 145;refine (fG _ _).mono ?_;rintro e w' ⟨rfl,rfl⟩) | (go_at_call 146;refine (dI _ _ _).mono ?_;rintro e w' ⟨rfl,rfl⟩));go_ret;exact⟨rfl,(ae n).drewN _⟩
  case inr.inr.inr.inr.inr.inr.inr.inr.inr =>
   exfalso;rcases d with a | a | a
   ·rw[g]at a;exact absurd a (by decide)
   ·simp at s;omega
   ·exact a rfl
  case inr.inr.inr.inr.inr.inr.inr.inl =>
   obtain rfl:f=none:=by
    rcases j with⟨a,_⟩ | ⟨_,a⟩
    ·rw[g]at a;exact absurd a (by decide)
    ·exact a
   simp only[ja]at H;clear d j g;go_enter Tryz.func111,Tryz.ntmps111;go_wp2;rw[<-ae p];go_quiet (fail);go_wp2_with (first | (go_at_call 68;refine (bJ _ _).mono ?_;rintro e w' ⟨rfl,rfl⟩) | (go_at_call 144;refine (eF _ _).mono ?_;rintro e w' ⟨rfl,rfl⟩) | (go_at_call 47;refine (eu _ _).mono ?_;rintro e w' ⟨rfl,rfl⟩) | (go_at_call 145;refine (fG _ _).mono ?_;rintro e w' ⟨rfl,rfl⟩) | (go_at_call 146;refine (dI _ _ _).mono ?_;rintro e w' ⟨rfl,rfl⟩));go_quiet (fail);go_wp2_with (first | (go_at_call 68;refine (bJ _ _).mono ?_;rintro e w' ⟨rfl,rfl⟩) | (go_at_call 144;refine (eF _ _).mono ?_;rintro e w' ⟨rfl,rfl⟩) | (go_at_call 47;refine (eu _ _).mono ?_;rintro e w' ⟨rfl,rfl⟩) | (go_at_call 145;refine (fG _ _).mono ?_;rintro e w' ⟨rfl,rfl⟩) | (go_at_call 146;refine (dI _ _ _).mono ?_;rintro e w' ⟨rfl,rfl⟩));go_ret;exact⟨rfl,(ae n).drewN _⟩
  all_goals
   clear d j;go_enter Tryz.func111,Tryz.ntmps111;go_wp2;rw[<-ae p];go_quiet (fail);go_wp2_with (first | (go_at_call 68;refine (bJ _ _).mono ?_;rintro e w' ⟨rfl,rfl⟩) | (go_at_call 144;refine (eF _ _).mono ?_;rintro e w' ⟨rfl,rfl⟩) | (go_at_call 47;refine (eu _ _).mono ?_;rintro e w' ⟨rfl,rfl⟩) | (go_at_call 145;refine (fG _ _).mono ?_;rintro e w' ⟨rfl,rfl⟩) | (go_at_call 146;refine (dI _ _ _).mono ?_;rintro e w' ⟨rfl,rfl⟩));go_quiet (fail);go_wp2_with (first | (go_at_call 68;refine (bJ _ _).mono ?_;rintro e w' ⟨rfl,rfl⟩) | (go_at_call 144;refine (eF _ _).mono ?_;rintro e w' ⟨rfl,rfl⟩) | (go_at_call 47;refine (eu _ _).mono ?_;rintro e w' ⟨rfl,rfl⟩) | (go_at_call 145;refine (fG _ _).mono ?_;rintro e w' ⟨rfl,rfl⟩) | (go_at_call 146;refine (dI _ _ _).mono ?_;rintro e w' ⟨rfl,rfl⟩));go_ret;exact⟨rfl,(ae n).drewN _⟩
end Go.Proofs.YtigaphnafnpfnaaGreatDoor
