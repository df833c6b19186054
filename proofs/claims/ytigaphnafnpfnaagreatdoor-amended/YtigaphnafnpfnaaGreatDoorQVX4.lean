import Derived.Test.YtigaphnafnpfnaaGreatDoorQVX2
import Derived.Test.YtigaphnafnpfnaaGreatDoorQVX3
import Derived.Test.YtigaphnafnpfnaaGreatDoorQVB4
set_option linter.unusedVariables false
set_option linter.unusedSimpArgs false
set_option maxHeartbeats 8000000
set_option maxRecDepth 100000
namespace Go.Proofs.YtigaphnafnpfnaaGreatDoor
open Go.RowKit
attribute [local go_sem ↓] Go.wp_at_zero Go.wp_at_succ
def eu(l:List Ord)(o:Ask):Nat→Option Nat
 | 0=>none
 | i+1=>if dK o (ah l i) then (match eu l o i with
     | none=>some i
     | some b=>if iF (ah l i) (ah l b) then some i else some b) else eu l o i
theorem pz(l:List Ord)(o:Ask):∀i b,eu l o i=some b→b<i
 | 0,b,h=>by simp[eu]at h
 | i+1,b,h=>by
   unfold eu at h
   split at h
   ·split at h
    ·simp at h;omega
    ·rename_i b' hb'
     have:=pz l o i b' hb'
     split at h <;> simp at h <;> omega
   ·have:=pz l o i b h;omega
def dD(l:List Ord)(o:Ask):Option Nat:=eu l o l.length
theorem uM(base sb:Nat)(S:RS)(m:SM)(o:Ask)(w:World)(h:bH w base sb S m)(hlen:S.l.length≤1000) :
 Calls Tryz.prog 199 #[.pointer (some ⟨sb,0,none⟩),o.val] w fun e w'=>e=.returned (.int .i64 (oi (dD S.l o)))∧ag ak w w':=by
 obtain⟨n,hn⟩:∃n,S.l.length=n:=⟨_,rfl⟩
 obtain⟨a,c,hv⟩:=az h.bI
 have HG:Hid (∀W,ag ak w W→∀i,i<n→Calls Tryz.prog 224 #[.pointer (some ⟨sb,0,none⟩),o.val,.int .i64 (i:Int)] W fun e w'=>e=.returned (.bool (dK o (ah S.l i)))∧ag ak W w') :=
  fun W k i hi=>A8 base sb i S m o W (h.aj k) hlen (by omega)
 have HB:Hid (∀W,ag ak w W→∀i k,i<n→k<n→Calls Tryz.prog 225 #[.pointer (some ⟨sb,0,none⟩),.int .i64 (i:Int),.int .i64 (k:Int)] W fun e w'=>e=.returned (.bool (iF (ah S.l i) (ah S.l k)))∧ag ak W w') :=
  fun W k i j hi hj=>FY base sb i j S m W (h.aj k) hlen (by omega) (by omega)
 rw[hn]at hv hlen
 have v1:w.cell? ⟨sb,1,none⟩=some (.slice a n c):=by rw[←hv];exact h.blk.cell 1
 have uj:=h.blk.lt
 have HR:Hid (dD S.l o=eu S.l o n):=by show _=_;unfold dD;rw[hn]
 obtain⟨L,hL⟩:∃L,S.l=L:=⟨_,rfl⟩
 rw[hL]at HR HG HB ⊢
 clear h hv hL hn
 obtain⟨id,owner,sym,side,kind,price,qty⟩:=o
 simp only[Ask.val]at HG ⊢
 obtain⟨w0,hw0⟩:∃w0,w0=w.alloc (.cells #[.int .i64 id,.int .i64 owner,.string sym,.int .i64 side,.int .i64 kind,.int .i64 price,.int .i64 qty] 52):=⟨_,rfl⟩
 have HB0:Hid (ai w0 w.heap.size #[.int .i64 id,.int .i64 owner,.string sym,.int .i64 side,.int .i64 kind,.int .i64 price,.int .i64 qty] 52∧ag ak w w0):=⟨by rw[hw0];exact ai.new _ _ _,by rw[hw0];exact (ag.refl _ _).alloc _⟩
 have HW:=hide hw0
 clear hw0
 go_enter Tryz.func199,Tryz.ntmps199
 go_wp2
 rw[←ae HW]
 go_loopg [5,6] n (fun k bv iv wr=>∃i:Nat,iv=.int .i64 (i:Int)∧i≤n∧k=n-i∧bv=.int .i64 (oi (eu L ⟨id,owner,sym,side,kind,price,qty⟩ i))∧ag ak w0 wr)
 case atStart=>exact⟨0,rfl,Nat.zero_le _,rfl,rfl,ag.refl _ _⟩
 case round =>
  obtain⟨i,rfl,hi,hgk,rfl,kr⟩:=hrel
  obtain⟨b0,k0⟩:=ae HB0
  have v1r:=(k0.trans kr).cell v1 (fun x=>x)
  have br:=kr.blk b0 (fun x=>x)
  have b0r:wr.cell? ⟨w.heap.size,0,none⟩=some (.int .i64 id):=br.cell 0
  have b1r:wr.cell? ⟨w.heap.size,1,none⟩=some (.int .i64 owner):=br.cell 1
  have b2r:wr.cell? ⟨w.heap.size,2,none⟩=some (.string sym):=br.cell 2
  have b3r:wr.cell? ⟨w.heap.size,3,none⟩=some (.int .i64 side):=br.cell 3
  have b4r:wr.cell? ⟨w.heap.size,4,none⟩=some (.int .i64 kind):=br.cell 4
  have b5r:wr.cell? ⟨w.heap.size,5,none⟩=some (.int .i64 price):=br.cell 5
  have b6r:wr.cell? ⟨w.heap.size,6,none⟩=some (.int .i64 qty):=br.cell 6
  have uh:=hide k0
  have HK:=hide kr
  clear kr k0 b0 br
  by_cases hlt:i<n
  ·have G1:=ae HG _ ((ae uh).trans (ae HK)) i hlt
   cases hg:dK ⟨id,owner,sym,side,kind,price,qty⟩ (ah L i)
   ·rw[hg]at G1
    have HS:Hid (eu L ⟨id,owner,sym,side,kind,price,qty⟩ (i+1)=eu L ⟨id,owner,sym,side,kind,price,qty⟩ i):=by
     show _=_
     conv=>lhs;unfold eu
     rw[hg];rfl
    have HC:=hide G1
    clear G1 hg
    go_wp2_with fail
    refine (ae HC).mono ?_
    rintro e w2 ⟨rfl,k2⟩
    have jC:=hide k2
    clear k2
    go_wp2
    go_roundg (n-(i+1))
    case measure=>omega
    case rel=>exact⟨i+1,by push_cast;rfl,by omega,rfl,by rw[ae HS],(ae HK).trans (ae jC)⟩
   ·rw[hg]at G1
    have HC:=hide G1
    clear G1
    cases hb:eu L ⟨id,owner,sym,side,kind,price,qty⟩ i with
    | none =>
      have HS:Hid (eu L ⟨id,owner,sym,side,kind,price,qty⟩ (i+1)=some i):=by
       show _=_
       conv=>lhs;unfold eu
       rw[hg,hb];rfl
      clear hg hb
      simp only[oi]
      go_wp2_with fail
      refine (ae HC).mono ?_
      rintro e w2 ⟨rfl,k2⟩
      have jC:=hide k2
      clear k2
      go_wp2
      go_roundg (n-(i+1))
      case measure=>omega
      case rel=>exact⟨i+1,by push_cast;rfl,by omega,rfl,by rw[ae HS];rfl,(ae HK).trans (ae jC)⟩
    | some b =>
      have hbi:=pz _ _ _ _ hb
      cases hl:iF (ah L i) (ah L b)
      ·have HS:Hid (eu L ⟨id,owner,sym,side,kind,price,qty⟩ (i+1)=some b):=by
        show _=_
        conv=>lhs;unfold eu
        rw[hg,hb];simp[hl]
       have HL:=hide hl
       clear hg hb hl
       simp only[oi]
       go_wp2_with fail
       refine (ae HC).mono ?_
       rintro e w2 ⟨rfl,k2⟩
       have HC2:=hide (ae HB w2 (((ae uh).trans (ae HK)).trans k2) i b hlt (by omega))
       have jC:=hide k2
       clear k2
       go_wp2_with fail
       refine (ae HC2).mono ?_
       rintro e w3 ⟨rfl,k3⟩
       have lV:=hide k3
       clear k3
       rw[ae HL]
       go_wp2
       go_roundg (n-(i+1))
       case measure=>omega
       case rel=>exact⟨i+1,by push_cast;rfl,by omega,rfl,by rw[ae HS];rfl,((ae HK).trans (ae jC)).trans (ae lV)⟩
      ·have HS:Hid (eu L ⟨id,owner,sym,side,kind,price,qty⟩ (i+1)=some i):=by
        show _=_
        conv=>lhs;unfold eu
        rw[hg,hb];simp[hl]
       have HL:=hide hl
       clear hg hb hl
       simp only[oi]
       go_wp2_with fail
       refine (ae HC).mono ?_
       rintro e w2 ⟨rfl,k2⟩
       have HC2:=hide (ae HB w2 (((ae uh).trans (ae HK)).trans k2) i b hlt (by omega))
       have jC:=hide k2
       clear k2
       go_wp2_with fail
       refine (ae HC2).mono ?_
       rintro e w3 ⟨rfl,k3⟩
       have lV:=hide k3
       clear k3
       rw[ae HL]
       go_wp2
       go_roundg (n-(i+1))
       case measure=>omega
       case rel=>exact⟨i+1,by push_cast;rfl,by omega,rfl,by rw[ae HS];rfl,((ae HK).trans (ae jC)).trans (ae lV)⟩
  ·obtain rfl:i=n:=by omega
   go_wp2
   go_ret
   exact⟨by rw[ae HR];rfl,(ae uh).trans (ae HK)⟩
structure MS where
 B:Bk
 om:Nat→Ord
 lg:Lg
def MS.tr(st:MS):Int:=st.lg.tr.length
def aV(o:Ord):Ask:=⟨o.id,o.owner,o.sym,o.side,o.kind,o.price,o.qty⟩
def fA(o:Ord):Ord:={ o with opn:=0,aG:=wrap64 (o.aG+o.opn) }
def bV(oc s:Nat)(st:MS):MS :=
 if (st.om (st.B.h s 0)).owner=(st.om oc).owner then ⟨st.B.leave st.om s 0,upd st.om (st.B.h s 0) (fA (st.om (st.B.h s 0))),st.lg.aS [.left (st.B.h s 0),.now (st.B.h s 0) (st.om (st.B.h s 0))]⟩
 else ⟨dM st.B st.om oc (st.B.h s 0) s,aH st.om oc (st.B.h s 0),(dR st.lg st.om oc (st.B.h s 0)).kM (iW st.B st.om oc (st.B.h s 0))⟩
def stops(oc s:Nat)(st:MS):Bool:=!decide (0<(st.om oc).opn) || (bK st.B st.om (aV (st.om oc)) s).isNone
def aZ(oc s:Nat):Nat→MS→MS
 | 0,st=>st
 | f+1,st=>if stops oc s st then st else aZ oc s f (bV oc s st)
def mu(oc s:Nat)(st:MS):Nat:=st.B.n s+(if 0<(st.om oc).opn then 1 else 0)
def mF(oc s:Nat)(st:MS):MS:=aZ oc s (mu oc s st) st
structure Inv(oc s:Nat)(st:MS):Prop where
 mem:∀k,k<st.B.n s→(st.om (st.B.h s k)).side=(s:Int)∧0<(st.om (st.B.h s k)).opn∧(st.om (st.B.h s k)).opn≤1000000000000000∧st.B.h s k≠oc
 inj:qP (st.B.n s) (st.B.h s)
 lo:0≤(st.om oc).opn
 hi:(st.om oc).opn≤1000000000000000
 side:(st.om oc).side=1-(s:Int)
theorem aF{x:Int}(h1:-9223372036854775808≤x)(h2:x<9223372036854775808):wrap64 x=x:=by
 unfold wrap64;omega
theorem uG{B:Bk}{om:Nat→Ord}{s:Nat}(hinj:qP (B.n s) (B.h s))(hn:0<B.n s):∀k,k<(B.leave om s 0).n s→∃k',k'<B.n s∧(B.leave om s 0).h s k=B.h s k'∧B.h s k'≠B.h s 0:=by
 intro k hk
 simp only[Bk.leave,upd_same]at hk ⊢
 have h0:qP (B.n s-1+1) (B.h s):=by rw[show B.n s-1+1=B.n s by omega];exact hinj
 obtain⟨⟨k',hk',e⟩,hne⟩:=(lL (lt:=dW om) (B.h s) 0 (n:=B.n s-1) (by omega) (h0.remove (by omega)) _).1 ⟨k,hk,rfl⟩
 exact⟨k',by omega,e,by rw[←e];exact hne⟩
theorem Ar{B:Bk}{om:Nat→Ord}{s:Nat}(hinj:qP (B.n s) (B.h s))(hn:0<B.n s):qP ((B.leave om s 0).n s) ((B.leave om s 0).h s):=by
 have h0:qP (B.n s-1+1) (B.h s):=by rw[show B.n s-1+1=B.n s by omega];exact hinj
 simp only[Bk.leave,upd_same]
 exact fun a b ha hb e=>(h0.remove (lt:=dW om) (i:=0) (by omega)) a b (by omega) (by omega) e
theorem vK{B:Bk}{om:Nat→Ord}{o:Ask}{s b:Nat}(h:bK B om o s=some b):0<B.n s∧b=B.h s 0:=by
 unfold bK at h
 split at h
 ·simp at h
 ·split at h
  ·simp at h;exact⟨by omega,h.symm⟩
  ·simp at h
theorem qi{oc s:Nat}{st:MS}(iv:Inv oc s st)(hn:0<st.B.n s)(hp:0<(st.om oc).opn):Inv oc s (bV oc s st)∧mu oc s (bV oc s st)<mu oc s st∧(∀b,bQ (bV oc s st).B s b→bQ st.B s b):=by
 obtain⟨B,om,tr⟩:=st
 have h0:=iv.mem 0 hn
 simp only at h0 hn hp
 have Vr:=iv.mem
 have Ld:=iv.inj
 have ivl:=iv.lo
 have ivh:=iv.hi
 have Zb:=iv.side
 simp only at Vr Ld ivl ivh Zb
 obtain⟨hs0,hpos,hmax,hne⟩:=h0
 have hne':oc≠B.h s 0:=fun e=>hne e.symm
 have E8:∀df b,bQ (B.leave df s 0) s b→bQ B s b:=by
  rintro df b (h | ⟨k,hk,e⟩)
  ·exact .inl h
  ·obtain⟨k',hk',e',_⟩:=uG (om:=df) Ld hn k hk
   exact .inr ⟨k',hk',by rw[e,e']⟩
 have OO:∀df,(B.leave df s 0).n s=B.n s-1:=fun df=>by simp only[Bk.leave,upd_same]
 unfold bV
 simp only
 split
 ·have hoc:upd om (B.h s 0) (fA (om (B.h s 0))) oc=om oc:=af _ _ hne'
  refine⟨⟨?_,Ar Ld hn,by simp only[hoc];exact ivl,by simp only[hoc];exact ivh,by simp only[hoc];exact Zb⟩,?_,E8 om⟩
  ·intro k hk
   obtain⟨k',hk',e,hne0⟩:=uG (om:=om) Ld hn k hk
   simp only[e,af _ _ hne0]
   exact Vr k' hk'
  ·unfold mu
   simp only[hoc,OO]
   omega
 ·obtain⟨q,hq⟩:∃q,min (om oc).opn (om (B.h s 0)).opn=q:=⟨_,rfl⟩
  have hq0:0<q:=by omega
  have hq1:q≤(om oc).opn:=by omega
  have hq2:q≤(om (B.h s 0)).opn:=by omega
  have yV:aH om oc (B.h s 0) oc=iE (om oc) q:=by unfold aH;rw[af _ _ hne',upd_same,hq]
  have MB:aH om oc (B.h s 0) (B.h s 0)=iE (om (B.h s 0)) q:=by unfold aH;rw[upd_same,hq]
  have tot:∀x,x≠oc→x≠B.h s 0→aH om oc (B.h s 0) x=om x:=fun x h1 h2=>by unfold aH;rw[af _ _ h2,af _ _ h1]
  have VB:(iE (om oc) q).opn=(om oc).opn-q:=by simp only[iE];exact aF (by omega) (by omega)
  have ow8:(iE (om (B.h s 0)) q).opn=(om (B.h s 0)).opn-q:=by simp only[iE];exact aF (by omega) (by omega)
  unfold dM
  rw[MB,ow8]
  by_cases hz:(om (B.h s 0)).opn-q=0
  ·rw[if_pos hz]
   refine⟨⟨?_,Ar Ld hn,by simp only[yV,VB];omega,by simp only[yV,VB];omega,by simp only[yV];exact Zb⟩,?_,E8 _⟩
   ·intro k hk
    obtain⟨k',hk',e,hne0⟩:=uG (om:=aH om oc (B.h s 0)) Ld hn k hk
    simp only[e]
    rw[tot _ (Vr k' hk').2.2.2 hne0]
    exact Vr k' hk'
   ·unfold mu
    simp only[yV,VB,OO]
    rw[if_pos hp]
    split <;> omega
  ·rw[if_neg hz]
   refine⟨⟨?_,Ld,by simp only[yV,VB];omega,by simp only[yV,VB];omega,by simp only[yV];exact Zb⟩,?_,fun b h=>h⟩
   ·intro k hk
    simp only
    by_cases e:k=0
    ·subst e
     rw[MB]
     refine⟨hs0,by rw[ow8];omega,by rw[ow8];omega,hne⟩
    ·have:B.h s k≠B.h s 0:=fun h=>e (Ld k 0 hk hn h)
     rw[tot _ (Vr k hk).2.2.2 this]
     exact Vr k hk
   ·unfold mu
    simp only[yV,VB]
    rw[if_pos hp,if_neg (by omega)]
    omega
theorem vS{oc s f:Nat}{st:MS}(h:stops oc s st=true):aZ oc s f st=st:=by
 cases f with
 | zero=>rfl
 | succ f=>rw[aZ,if_pos h]
theorem Ls(bv bb oc s bm bo:Nat)(st0:MS)(lm:Lm)(L:Nat→Prop)(w:World)(hv:aK w bv bm bo st0.lg lm)(m:Mk w bb st0.B st0.om L)(hs:s<2)(hc:L oc)(iv:Inv oc s st0)(M:Nat)(hM:M<1000000000)(hl1:st0.lg.tp.length+mu oc s st0≤M)(hl2:st0.lg.tr.length+mu oc s st0≤M)(hna:0<st0.lg.na)(fF:st0.lg.na≤3000000)(hl3:st0.lg.nt.length+4 * mu oc s st0≤M) :
 Calls Tryz.prog 120 #[.pointer (some ⟨bv,0,none⟩),.pointer (some ⟨bb,0,none⟩),.pointer (some ⟨oc,0,none⟩)] w fun e w'=>e=.returned (.tuple #[]) ∧
  Mk w' bb (mF oc s st0).B (mF oc s st0).om L∧(∃aY,aK w' bv bm bo (mF oc s st0).lg aY∧∀b,aY.F b→lm.F b∨w.heap.size≤b)∧Inv oc s (mF oc s st0)∧ag (fun b=>b=bv∨lm.F b∨b=bb∨b=oc∨bQ st0.B s b) w w':=by
 go_enter Tryz.func120,Tryz.ntmps120
 go_wp2
 go_loopg [6] (mu oc s st0) (fun k _ wr=>∃(st:MS) (Ll:Lm),mu oc s st≤k∧aZ oc s k st=mF oc s st0∧Mk wr bb st.B st.om L∧aK wr bv bm bo st.lg Ll∧Inv oc s st∧(∀b,bQ st.B s b→bQ st0.B s b)∧ag (fun b=>b=bv∨lm.F b∨b=bb∨b=oc∨bQ st0.B s b) w wr∧(∀b,Ll.F b→lm.F b∨w.heap.size≤b)∧st.lg.tp.length+k≤M∧st.lg.tr.length+k≤M∧st.lg.na=st0.lg.na∧st.lg.nt.length+4 * k≤M)
 case atStart=>exact⟨st0,lm,Nat.le_refl _,rfl,m,hv,iv,fun _ h=>h,ag.refl _ _,fun _ h=>.inl h,hl1,hl2,rfl,hl3⟩
 case round =>
  obtain⟨st,Ll,hk,hm,m1,hv1,XU,sub,c1,hf1,hb1,hb2,hb3,hb4⟩:=hrel
  rw[←hb3]at hna fF
  have HM:=hide hm
  have Vb:=hide hf1
  have HB3:=hide hb3
  clear hm m hv iv hf1 hl1 hl2 hl3 hb3
  obtain⟨ixc,hoc⟩:=m1.aQ oc hc
  have c8:wr.cell? ⟨oc,8,none⟩=some (.int .i64 (st.om oc).opn):=hoc.cell 8
  by_cases hp:0<(st.om oc).opn
  ·have TR:wr.cell? ⟨oc,0,none⟩=some (.int .i64 (st.om oc).id):=hoc.cell 0
   have Sl:wr.cell? ⟨oc,1,none⟩=some (.int .i64 (st.om oc).owner):=hoc.cell 1
   have TS:wr.cell? ⟨oc,2,none⟩=some (.string (st.om oc).sym):=hoc.cell 2
   have TT:wr.cell? ⟨oc,3,none⟩=some (.int .i64 (st.om oc).side):=hoc.cell 3
   have TU:wr.cell? ⟨oc,4,none⟩=some (.int .i64 (st.om oc).kind):=hoc.cell 4
   have TV:wr.cell? ⟨oc,5,none⟩=some (.int .i64 (st.om oc).price):=hoc.cell 5
   have TY:wr.cell? ⟨oc,6,none⟩=some (.int .i64 (st.om oc).qty):=hoc.cell 6
   go_wp2_with fail
   refine (iY bb st.B st.om (aV (st.om oc)) s wr m1.book hs XU.side).mono ?_
   rintro e w2 ⟨rfl,k2⟩
   have m2:=m1.kept k2 (fun x=>x) (fun _ _ x=>x) (fun _ _ _ _ x=>x)
   have hv2:=hv1.aj k2
   clear TR TS TT TU TV TY c8
   cases hf:bK st.B st.om (aV (st.om oc)) s
   ·have hst:stops oc s st=true:=by simp[stops,hf]
    have HS:=hide hst
    clear hf hst
    simp only[fV]
    go_wp2
    try simp only[Exit.inBlock,Exit.then]
    refine bodyPost_ret (results_none rfl _ _ _) rfl ?_
    have hfin:mF oc s st0=st:=by rw[←ae HM,vS (ae HS)]
    rw[hfin]
    exact⟨rfl,m2,⟨Ll,hv2,ae Vb⟩,XU,c1.trans k2.aC⟩
   ·rename_i b
    obtain⟨hn,rfl⟩:=vK hf
    have hst:stops oc s st=false:=by simp[stops,hf,hp]
    obtain⟨iv3,mu3,Rx⟩:=qi XU hn hp
    obtain⟨g,rfl⟩:∃g,gk=g+1:=⟨gk-1,by omega⟩
    have hm3:aZ oc s g (bV oc s st)=mF oc s st0:=by rw[←ae HM,aZ,hst];rfl
    have H3:=hide hm3
    have HI:=hide iv3
    have HU:=hide mu3
    clear hf hst hm3 iv3 mu3 HM
    obtain⟨aaR,aar⟩:=m2.aQ oc hc
    obtain⟨aaS,aat⟩:=m2.aQ _ (m2.mem s hs 0 hn)
    have a1:w2.cell? ⟨oc,1,none⟩=some (.int .i64 (st.om oc).owner):=aar.cell 1
    have b1:w2.cell? ⟨st.B.h s 0,1,none⟩=some (.int .i64 (st.om (st.B.h s 0)).owner):=aat.cell 1
    have i0:=XU.mem 0 hn
    simp only[fV]
    by_cases ho:(st.om (st.B.h s 0)).owner=(st.om oc).owner
    ·have e1:((st.om (st.B.h s 0)).owner == (st.om oc).owner)=true:=by simp[ho]
     have HE:Hid (bV oc s st=⟨st.B.leave st.om s 0,upd st.om (st.B.h s 0) (fA (st.om (st.B.h s 0))),st.lg.aS [.left (st.B.h s 0),.now (st.B.h s 0) (st.om (st.B.h s 0))]⟩):=by show _=_;unfold bV;rw[if_pos ho]
     clear ho Sl
     go_wp2
     go_quiet (fail)
     go_wp2_with fail
     have m2':=m2.kept ((ag.refl ak w2).drewN nq) (fun x=>x) (fun _ _ x=>x) (fun _ _ _ _ x=>x)
     refine (nC bb st.B st.om L s 0 _ m2' hs hn i0.1).mono ?_
     rintro e w3 ⟨qH,cp3,rfl,-,m3,k3⟩
     clear a1 b1
     go_wp2_with fail
     refine (jU bb (st.B.h s 0) _ st.om L _ m3 (m2.mem s hs 0 hn)).mono ?_
     rintro e w4 ⟨Hy,cp4,rfl,-,m4,k4⟩
     have hv3:=(hv2.aj ((ag.refl ak w2).drewN nq)).iI k3 (fun b h=>m2'.typ (by rcases h with h | h;exact .inl h;exact .inr (.inr ⟨s,hs,h⟩)))
     have hv4:=hv3.iI k4 (fun b h=>by subst h;exact m3.typ (.inr (.inl (m2.mem s hs 0 hn))))
     have oH:=hide (JO bv bm bo _ Ll (.left (st.B.h s 0)) (.now (st.B.h s 0) (st.om (st.B.h s 0))) qH Hy cp3 cp4 w4 hv4 hna fF (by omega))
     go_wp2_with fail
     refine (ae oH).mono ?_
     rintro e w5 ⟨rfl,rX,hv5,hf5,k5⟩
     go_wp2
     go_roundg g
     case measure=>omega
     case rel =>
      have m5:=m4.gK hv4 (k5.mono (fun b h=>.inr h))
      have hh:=ae HE
      have hi:=ae HI
      have hu:=ae HU
      have h3:=ae H3
      rw[hh]at hi hu h3 Rx
      have JG:ag (fun b=>b=bv∨lm.F b∨b=bb∨b=oc∨bQ st0.B s b) w w4:=((c1.trans k2.aC).drewN _).trans ((k3.mono (fun b h=>by rcases h with h | h;exact .inr (.inr (.inl h));exact .inr (.inr (.inr (.inr (sub b h)))))).trans (k4.mono (fun b h=>.inr (.inr (.inr (.inr (sub b (.inr ⟨0,hn,h⟩))))))))
      refine⟨_,rX,by omega,h3,m5,hv5,hi,fun b hb=>sub b (Rx b hb),JG.from (k5.mono (fun b h=>(ae Vb b h).imp_left (fun h=>.inr (.inl h)))),fun b hb=>?_,by simp only[Lg.aS];omega,by simp only[Lg.aS];omega,ae HB3,by simp only[Lg.aS,List.length_append,List.length_cons,List.length_nil];omega⟩
      rcases hf5 b hb with h | h
      ·exact ae Vb b h
      ·exact .inr (Nat.le_trans JG.size h)
    ·have e1:((st.om (st.B.h s 0)).owner == (st.om oc).owner)=false:=by simp[ho]
     have HE:Hid (bV oc s st=⟨dM st.B st.om oc (st.B.h s 0) s,aH st.om oc (st.B.h s 0),(dR st.lg st.om oc (st.B.h s 0)).kM (iW st.B st.om oc (st.B.h s 0))⟩):=by show _=_;unfold bV;rw[if_neg ho]
     clear ho Sl
     go_wp2
     go_quiet (fail)
     go_wp2_with fail
     refine (MF bv bb oc s bm bo st.lg Ll st.B st.om L _ (hv2.aj ((ag.refl ak w2).drewN _)) (m2.kept ((ag.refl ak w2).drewN _) (fun x=>x) (fun _ _ x=>x) (fun _ _ _ _ x=>x)) hs hn hc i0.2.2.2 i0.1 (by omega) (by omega) hna fF (by omega)).mono ?_
     rintro e w3 ⟨rfl,m3,lI,hv3,hf3,k3⟩
     clear a1 b1
     go_wp2
     go_roundg g
     case measure=>omega
     case rel =>
      have hh:=ae HE
      have hi:=ae HI
      have hu:=ae HU
      have h3:=ae H3
      rw[hh]at hi hu h3 Rx
      have hsz:=((c1.trans k2.aC).drewN nq).size
      have g4:=uY st.lg st.om oc (st.B.h s 0)
      refine⟨_,lI,by omega,h3,m3,hv3,hi,fun b hb=>sub b (Rx b hb),((c1.trans k2.aC).drewN _).from (k3.mono (fun b h=>?_)),fun b hb=>?_,by simp only[Lg.kM,Lg.told,Lg.kept,Lg.aS,nK,List.length_append,List.length_cons,List.length_nil];omega,by simp only[Lg.kM,Lg.told,Lg.kept,Lg.aS,iT,List.length_append,List.length_cons,List.length_nil];omega,by simp only[Lg.kM,Lg.told,Lg.kept,Lg.aS,uX];exact ae HB3,by simp only[Lg.kM,Lg.told,Lg.kept,Lg.aS,List.length_append,List.length_cons,List.length_nil];omega⟩
      ·rcases h with h | h | h | h | h
       ·exact .inl (.inl h)
       ·exact (ae Vb b h).imp_left (fun h=>.inr (.inl h))
       ·exact .inl (.inr (.inr (.inl h)))
       ·exact .inl (.inr (.inr (.inr (.inl h))))
       ·exact .inl (.inr (.inr (.inr (.inr (sub b h)))))
      ·rcases hf3 b hb with h | h
       ·exact ae Vb b h
       ·exact .inr (Nat.le_trans hsz h)
  ·have hst:stops oc s st=true:=by simp[stops,hp]
   have HS:=hide hst
   clear hst
   go_wp2
   go_end0
   have hfin:mF oc s st0=st:=by rw[←ae HM,vS (ae HS)]
   rw[hfin]
   exact⟨rfl,m1,⟨Ll,hv1,ae Vb⟩,XU,c1⟩
end Go.Proofs.YtigaphnafnpfnaaGreatDoor
