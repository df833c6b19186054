import Derived.Test.YtigaphnafnpfnaaGreatDoorQVX8
import Derived.Test.YtigaphnafnpfnaaGreatDoorQVX9
import Derived.Test.YtigaphnafnpfnaaGreatDoorQVB6
set_option linter.unusedVariables false
set_option linter.unusedSimpArgs false
set_option maxHeartbeats 8000000
set_option maxRecDepth 100000
namespace Go.Proofs.YtigaphnafnpfnaaGreatDoor
open Go.RowKit
attribute [local go_sem ↓] Go.wp_at_zero Go.wp_at_succ
structure RC where
 S:RS
 left:Int
 filled:Int
 count:Int
 first:Int
def RC.o(c:RC)(i:Nat):Ask:=aV (ah c.S.l i)
def RC.best(c:RC)(i:Nat):Option Nat:=dD c.S.l (c.o i)
def RC.much(c:RC)(k:Nat):Int:=if (ah c.S.l k).opn<c.left then (ah c.S.l k).opn else c.left
def RC.step(c:RC)(i k:Nat):RC :=
 if (ah c.S.l k).owner=(ah c.S.l i).owner then { c with S:=c.S.cu k { ah c.S.l k with aG:=wrap64 ((ah c.S.l k).aG+(ah c.S.l k).opn),opn:=0 } }
 else ⟨c.S.dZ i k (c.much k),wrap64 (c.left-c.much k),wrap64 (c.filled+c.much k),wrap64 (c.count+1),if wrap64 (c.count+1)=1 then (c.S.t.length:Int)+1 else c.first⟩
inductive Ends (i:Nat):Nat→RC→RC→Prop
 | stop (f:Nat) (c:RC) (h:¬0<c.left∨c.best i=none):Ends i f c c
 | go (f k:Nat) (c c':RC) (h:0<c.left) (hk:c.best i=some k) (e:Ends i f (c.step i k) c'):Ends i (f+1) c c'
theorem Ends.inv{i q:Nat}{c c':RC}(h:Ends i q c c'):(c'=c∧(¬0<c.left∨c.best i=none))∨∃f k,q=f+1∧0<c.left∧c.best i=some k∧Ends i f (c.step i k) c':=by
 cases h with
 | stop _ _ hs=>exact .inl ⟨rfl,hs⟩
 | go f k _ _ hl hk e=>exact .inr ⟨f,k,rfl,hl,hk,e⟩
theorem bH.dr{w:World}{base sb:Nat}{S:RS}{m:SM}(h:bH w base sb S m):bH w.drew base sb S m:=h.aj (ag.refl ak w).drew
theorem NC{l:List Ord}{o:Ask}{k:Nat}(h:dD l o=some k):k<l.length:=pz _ _ _ _ h
theorem jM(l:List Ord)(o:Ask):∀i b,eu l o i=some b→dK o (ah l b)=true
 | 0,b,h=>by simp[eu]at h
 | i+1,b,h=>by
   unfold eu at h
   split at h
   ·rename_i hg
    split at h
    ·simp at h;subst h;exact hg
    ·rename_i b' hb'
     split at h <;> simp at h <;> subst h
     ·exact hg
     ·exact jM l o i b' hb'
   ·exact jM l o i b h
theorem Qz{c:RC}{i k:Nat}(h:c.best i=some k):i≠k:=by
 rintro rfl
 have:=jM _ _ _ _ h
 simp[dK,RC.o,aV]at this
theorem Gw(c:RC)(i k:Nat):(c.step i k).S.l.length=c.S.l.length:=by
 unfold RC.step
 split
 ·simp[RS.cu]
 ·simp[RS.dZ,RS.fills,RS.cu]
theorem DJ(c:RC)(i k:Nat):(c.step i k).S.t.length≤c.S.t.length+1∧(c.step i k).S.told.length≤c.S.told.length+1:=by
 unfold RC.step
 split
 ·simp[RS.cu]
 ·simp[RS.dZ]
theorem QJ(S:RS){i k:Nat}(n:Int)(hi:i<S.l.length)(hik:i≠k):aV (ah (S.fills i k n).l i)=aV (ah S.l i):=by
 simp only[RS.fills,RS.cu]
 rw[bG (by simp only[List.length_set];exact hi)]
 rfl
theorem U5(c:RC){i k:Nat}(hi:i<c.S.l.length)(hik:i≠k):(c.step i k).o i=c.o i:=by
 unfold RC.step RC.o
 split
 ·simp only[RS.cu]
  rw[iK hik.symm]
 ·exact QJ c.S _ hi hik
structure Cm(base sb:Nat)(m:SM)(w:World)(c:RC)(m':SM)(wr:World):Prop where
 st:bH wr base sb c.S m'
 sf:∀b,SF sb m' b→SF sb m b∨w.heap.size≤b
 r:ai wr (w.heap.size+1) #[.int .i64 c.filled,.int .i64 0,.int .i64 0,.int .i64 c.first,.int .i64 c.count] 87
 z:ai wr w.heap.size aB 87
 gY:ag (SF sb m) w wr
theorem Cm.next{base sb:Nat}{m m':SM}{w wr w2:World}{c:RC}{S2:RS}(h:Cm base sb m w c m' wr)(hn:fP base sb S2 m' wr w2):∃m2,Cm base sb m w { c with S:=S2 } m2 w2:=by
 obtain⟨m2,p,q,k⟩:=hn
 refine⟨m2,⟨p,fun b hb=>?_,k.blk h.r (h.st.ne h.r (by decide)),k.blk h.z (h.st.ne h.z (by decide)),h.gY.from (k.mono h.sf)⟩⟩
 rcases q b hb with h1 | h1
 ·exact h.sf b h1
 ·exact .inr (Nat.le_trans h.gY.size h1)
theorem Cm.put{base sb:Nat}{m m':SM}{w wr w2:World}{c c2:RC}(h:Cm base sb m w c m' wr)(hS:c2.S=c.S)(k:ag (fun b=>b=w.heap.size+1) wr w2)(hr:ai w2 (w.heap.size+1) #[.int .i64 c2.filled,.int .i64 0,.int .i64 0,.int .i64 c2.first,.int .i64 c2.count] 87):Cm base sb m w c2 m' w2:=by
 have nb:∀b,SF sb m' b→¬b=w.heap.size+1:=fun b hb e=>by subst e;exact h.st.ne h.r (by decide) hb
 have hr':∀{e size n:Nat} {v:Value} {xs:List Value},wr.ownsRow base e size v n xs→(∀b,v.ownBlock=some b→SF sb m' b)→w2.ownsRow base e size v n xs:=fun r hs=>au r k (fun b hb=>nb b (hs b hb))
 refine⟨?_,h.sf,hr,k.blk h.z (by omega),h.gY.from (k.mono (fun b hb=>.inr (by omega)))⟩
 rw[hS]
 exact⟨h.st.ge,k.blk h.st.blk (nb _ (.inl rfl)),hr' h.st.jH (fun b hb=>.inr (.inl hb)),hr' h.st.bI (fun b hb=>.inr (.inr (.inl hb))),hr' h.st.dE (fun b hb=>.inr (.inr (.inr (.inl hb)))),hr' h.st.jS (fun b hb=>.inr (.inr (.inr (.inr hb))))⟩
theorem Cm.ext{base sb:Nat}{m m':SM}{w wr w2:World}{c:RC}(h:Cm base sb m w c m' wr)(k:ag ak wr w2):Cm base sb m w c m' w2 :=
 ⟨h.st.aj k,h.sf,k.blk h.r (fun x=>x),k.blk h.z (fun x=>x),h.gY.trans k.aC⟩
theorem Cm.fin{base sb:Nat}{m m':SM}{w wr w2:World}{c:RC}(h:Cm base sb m w c m' wr)(k:ag (fun b=>b=w.heap.size∨b=w.heap.size+1) wr w2):fP base sb c.S m w w2:=by
 have nb:∀b,SF sb m' b→¬(b=w.heap.size∨b=w.heap.size+1):=fun b hb e=>by
  rcases e with e | e
  ·subst e;exact h.st.ne h.z (by decide) hb
  ·subst e;exact h.st.ne h.r (by decide) hb
 have hr':∀{e size n:Nat} {v:Value} {xs:List Value},wr.ownsRow base e size v n xs→(∀b,v.ownBlock=some b→SF sb m' b)→w2.ownsRow base e size v n xs:=fun r hs=>au r k (fun b hb=>nb b (hs b hb))
 exact⟨m',⟨h.st.ge,k.blk h.st.blk (nb _ (.inl rfl)),hr' h.st.jH (fun b hb=>.inr (.inl hb)),hr' h.st.bI (fun b hb=>.inr (.inr (.inl hb))),hr' h.st.dE (fun b hb=>.inr (.inr (.inr (.inl hb)))),hr' h.st.jS (fun b hb=>.inr (.inr (.inr (.inr hb))))⟩,h.sf,h.gY.from (k.mono (fun b hb=>.inr (by omega)))⟩
theorem Dt(tmps:Array Value)(H:Nat)(w:World)(a b c d e:Int)(ht:tmps.getD 6 undef=.pointer (some ⟨H,0,none⟩))(hb:ai w H #[.int .i64 a,.int .i64 b,.int .i64 c,.int .i64 d,.int .i64 e] 87) :
 (results Tryz.f168 tmps).run Tryz.prog w=.ok (bu a b c d e) w:=by
 have c0:w.cell? ⟨H,0,none⟩=some (.int .i64 a):=hb.cell 0
 have c1:w.cell? ⟨H,1,none⟩=some (.int .i64 b):=hb.cell 1
 have c2:w.cell? ⟨H,2,none⟩=some (.int .i64 c):=hb.cell 2
 have c3:w.cell? ⟨H,3,none⟩=some (.int .i64 d):=hb.cell 3
 have c4:w.cell? ⟨H,4,none⟩=some (.int .i64 e):=hb.cell 4
 simp only[Array.getD_eq_getD_getElem?]at ht
 simp[results,Tryz.results168,go_sem,ht,c0,c1,c2,c3,c4,bu]
def nN(i:Nat)(c:RC):RS:=if c.left=0 then c.S else if di (ah c.S.l i).kind=true then c.S.stand i c.left else c.S.cu i { ah c.S.l i with aG:=wrap64 ((ah c.S.l i).aG+c.left) }
def F5(i:Nat)(c:RC):Value:=if c.left=0 then bu c.filled 0 0 c.first c.count else if di (ah c.S.l i).kind=true then bu c.filled c.left 0 c.first c.count else bu c.filled 0 c.left c.first c.count
theorem bH.see{W:World}{base sb N:Nat}{S':RS}{m':SM}(h:bH W base sb S' m')(hl:S'.l.length=N)(h0:0<N):∃g c,W.cell? ⟨sb,1,none⟩=some (.slice (some ⟨g,0,none⟩) N c)∧m'.lv=.slice (some ⟨g,0,none⟩) S'.l.length c∧sb≠g∧g<W.heap.size∧(∃cs,ai W g cs 212)∧(∀k,k<N→∀j u,(qJ (ah S'.l k))[j]?=some u→W.cell? ⟨g,k * 13+j,none⟩=some u)∧∀j,W.frozen? ⟨g,j,none⟩=false:=by
 obtain⟨a,c,hv⟩:=az h.bI
 obtain⟨g,rfl,_,_,hf⟩:=h.rY hv (i:=0) (by omega)
 have r:=h.bI
 rw[hv]at r
 obtain⟨cs,hcs⟩:=ay r (b:=g) rfl
 refine⟨g,c,by rw[←hl,←hv];exact h.blk.cell 1,hv,fun e=>ai.ne h.blk hcs (by decide) e,hcs.lt,⟨cs,hcs⟩,fun k hk j u hu=>?_,hf⟩
 obtain⟨g',e',_,hc,_⟩:=h.rY hv (i:=k) (by omega)
 obtain rfl:g=g':=by simpa using e'
 exact hc j u hu
theorem AX(base sb i f:Nat)(S:RS)(m:SM)(left:Int)(c':RC)(w:World)(h:bH w base sb S m)(hlen:S.l.length≤1000)(hi:i<S.l.length)(hE:Ends i f ⟨S,left,0,0,0⟩ c')(ht:S.t.length+f<1000000000)(ho:S.told.length+f<1000000000) :
 Calls Tryz.prog 168 #[.pointer (some ⟨sb,0,none⟩),.int .i64 (i:Int),.int .i64 left] w fun e w'=>e=.returned (F5 i c')∧fP base sb (nN i c') m w w':=by
 obtain⟨N,hN⟩:∃N,S.l.length=N:=⟨_,rfl⟩
 have hiN:i<N:=by omega
 have HB:Hid (∀W S' m',bH W base sb S' m'→S'.l.length=N→Calls Tryz.prog 199 #[.pointer (some ⟨sb,0,none⟩),.agg #[.int .i64 (ah S'.l i).id,.int .i64 (ah S'.l i).owner,.string (ah S'.l i).sym,.int .i64 (ah S'.l i).side,.int .i64 (ah S'.l i).kind,.int .i64 (ah S'.l i).price,.int .i64 (ah S'.l i).qty]] W fun e w'=>e=.returned (.int .i64 (oi (dD S'.l (aV (ah S'.l i)))))∧ag ak W w') :=
  fun W S' m' h' hl=>uM base sb S' m' (aV (ah S'.l i)) W h' (by omega)
 have HT:Hid (∀W S' m' k n,bH W base sb S' m'→S'.l.length=N→k<N→i≠k→S'.t.length<1000000000→S'.told.length<1000000000→Calls Tryz.prog 201 #[.pointer (some ⟨sb,0,none⟩),.int .i64 (i:Int),.int .i64 (k:Int),.int .i64 n] W fun e w'=>e=.returned (.tuple #[])∧fP base sb (S'.dZ i k n) m' W w') :=
  fun W S' m' k n h' hl hk hik h1 h2=>Gl base sb i k S' m' n W h' (by omega) (by omega) (by omega) hik h1 h2
 have HST:Hid (∀W S' m' n,bH W base sb S' m'→S'.l.length=N→Calls Tryz.prog 203 #[.pointer (some ⟨sb,0,none⟩),.int .i64 (i:Int),.int .i64 n] W fun e w'=>e=.returned (.tuple #[])∧fP base sb (S'.stand i n) m' W w') :=
  fun W S' m' n h' hl=>I8 base sb i S' m' n W h' (by omega) (by omega)
 obtain⟨w1,hw1⟩:∃w1,w1=(w.alloc (.cells aB 87)).alloc (.cells aB 87):=⟨_,rfl⟩
 have k1:ag ak w w1:=by rw[hw1];exact ((ag.refl ak w).alloc _).alloc _
 have cm1:Cm base sb m w ⟨S,left,0,0,0⟩ m w1:=⟨h.aj k1,fun b hb=>.inl hb,by rw[hw1];exact ai.jR w _ _ _,by rw[hw1];exact (ai.new w _ _).alloc _,k1.aC⟩
 obtain⟨g,c00,v1,_,_,lg,_,hc,_⟩:=h.see hN (by omega)
 have c0:w.cell? ⟨g,i * 13,none⟩=some (.int .i64 (ah S.l i).id):=hc i hiN 0 _ rfl
 have c1:w.cell? ⟨g,i * 13+1,none⟩=some (.int .i64 (ah S.l i).owner):=hc i hiN 1 _ rfl
 have c2:w.cell? ⟨g,i * 13+2,none⟩=some (.string (ah S.l i).sym):=hc i hiN 2 _ rfl
 have c3:w.cell? ⟨g,i * 13+3,none⟩=some (.int .i64 (ah S.l i).side):=hc i hiN 3 _ rfl
 have c4:w.cell? ⟨g,i * 13+4,none⟩=some (.int .i64 (ah S.l i).kind):=hc i hiN 4 _ rfl
 have c5:w.cell? ⟨g,i * 13+5,none⟩=some (.int .i64 (ah S.l i).price):=hc i hiN 5 _ rfl
 have c6:w.cell? ⟨g,i * 13+6,none⟩=some (.int .i64 (ah S.l i).qty):=hc i hiN 6 _ rfl
 have uj:=h.blk.lt
 have tH:sb<w.heap.size+1:=by omega
 have Vt:g<w.heap.size+1:=by omega
 have uk:=hide (ae HB w1 S m cm1.st hN)
 have HCM:=hide cm1
 have HE:=hide hE
 have HW1:=hide hw1
 have HN:=hide hN
 have Xz:N≤1000:=by omega
 simp only[aB]at HW1
 clear h hc cm1 hE hw1 hN k1 hi hlen
 go_enter Tryz.func168,Tryz.ntmps168
 go_wp2_with fail
 rw[←ae HW1]
 refine (ae uk).mono ?_
 rintro e w2 ⟨rfl,k2⟩
 have VQ:=hide ((ae HCM).ext k2)
 clear k2 uk HCM HW1 v1 c0 c1 c2 c3 c4 c5 c6
 go_wp2
 go_loopg [2,8] f (fun q lv kv wr=>∃c mr,lv=.int .i64 c.left∧kv=.int .i64 (oi (c.best i))∧Cm base sb m w c mr wr∧Ends i q c c'∧c.S.l.length=N∧c.S.t.length+q<1000000000∧c.S.told.length+q<1000000000)
 case atStart=>exact⟨⟨S,left,0,0,0⟩,m,rfl,rfl,ae VQ,ae HE,ae HN,ht,ho⟩
 case round =>
  clear VQ HE HN ht ho lg Vt
  obtain⟨c,mr,rfl,rfl,cm,he,hN,ht,ho⟩:=hrel
  obtain⟨g,cc,v1,hlv,hsg,lg,ni,hc,hf⟩:=cm.st.see hN (by omega)
  have r0:wr.cell? ⟨w.heap.size+1,0,none⟩=some (.int .i64 c.filled):=cm.r.cell 0
  have r1:wr.cell? ⟨w.heap.size+1,1,none⟩=some (.int .i64 0):=cm.r.cell 1
  have r2:wr.cell? ⟨w.heap.size+1,2,none⟩=some (.int .i64 0):=cm.r.cell 2
  have r3:wr.cell? ⟨w.heap.size+1,3,none⟩=some (.int .i64 c.first):=cm.r.cell 3
  have r4:wr.cell? ⟨w.heap.size+1,4,none⟩=some (.int .i64 c.count):=cm.r.cell 4
  have z0:wr.cell? ⟨w.heap.size,0,none⟩=some (.int .i64 0):=cm.z.cell 0
  have z1:wr.cell? ⟨w.heap.size,1,none⟩=some (.int .i64 0):=cm.z.cell 1
  have z2:wr.cell? ⟨w.heap.size,2,none⟩=some (.int .i64 0):=cm.z.cell 2
  have z3:wr.cell? ⟨w.heap.size,3,none⟩=some (.int .i64 0):=cm.z.cell 3
  have z4:wr.cell? ⟨w.heap.size,4,none⟩=some (.int .i64 0):=cm.z.cell 4
  have fr0:=cm.r.frozen 0
  have fr1:=cm.r.frozen 1
  have fr2:=cm.r.frozen 2
  have fr3:=cm.r.frozen 3
  have fr4:=cm.r.frozen 4
  have fz0:=cm.z.frozen 0
  have BV:=cm.z.frozen 1
  have BX:=cm.z.frozen 2
  have fz3:=cm.z.frozen 3
  have BZ:=cm.z.frozen 4
  have gz:g≠w.heap.size:=by obtain⟨cs,hcs⟩:=ni;exact ai.ne hcs cm.z (by decide)
  have gr:g≠w.heap.size+1:=by obtain⟨cs,hcs⟩:=ni;exact ai.ne hcs cm.r (by decide)
  have sz:sb≠w.heap.size:=by omega
  have sr:sb≠w.heap.size+1:=by omega
  have gz':=gz.symm
  have Sm:=gr.symm
  have sz':=sz.symm
  have MV:=sr.symm
  have hgs:=hsg.symm
  have HCM:=hide cm
  have HN:=hide hN
  have zU:=hide hlv
  have HCC:=hide hc
  have HF:=hide hf
  clear cm hN hlv ni
  rcases he.inv with⟨hcc,hs⟩ | ⟨q,k,rfl,hl,hk,he2⟩
  ·obtain rfl:=hcc
   have x4:wr.cell? ⟨g,i * 13+4,none⟩=some (.int .i64 (ah c'.S.l i).kind):=hc i hiN 4 _ rfl
   have x10:wr.cell? ⟨g,i * 13+10,none⟩=some (.int .i64 (ah c'.S.l i).aG):=hc i hiN 10 _ rfl
   have f10:=hf (i * 13+10)
   clear hc hf
   have hd:(decide (0<c'.left)=false)∨(decide (0<c'.left)=true∧c'.best i=none):=by
    by_cases h0:0<c'.left
    ·right
     exact⟨by simpa using h0,hs.elim (fun h=>absurd h0 h) (fun h=>h)⟩
    ·left;simpa using h0
   clear hs
   by_cases hl0:c'.left=0
   ·have e0:(c'.left == 0)=true:=by simp[hl0]
    have d0:decide (0<c'.left)=false:=by simp[hl0]
    have HV:Hid (F5 i c'=bu c'.filled 0 0 c'.first c'.count∧nN i c'=c'.S):=⟨by unfold F5;rw[if_pos hl0],by unfold nN;rw[if_pos hl0]⟩
    clear hl0 hd
    go_wp2
    refine bodyPost_ret (Dt _ w.heap.size _ c'.filled 0 0 c'.first c'.count rfl ?_) rfl ⟨by rw[(ae HV).1],?_⟩
    ·exact (((((ae HCM).z.set 0 _).set 1 _).set 2 _).set 3 _).set 4 _
    ·rw[(ae HV).2]
     exact (ae HCM).fin ((((((ag.refl (fun x=>x=w.heap.size∨x=w.heap.size+1) wr).setCell (p:=⟨w.heap.size,0,none⟩) (.inl (.inl rfl)) _).setCell (p:=⟨w.heap.size,1,none⟩) (.inl (.inl rfl)) _).setCell (p:=⟨w.heap.size,2,none⟩) (.inl (.inl rfl)) _).setCell (p:=⟨w.heap.size,3,none⟩) (.inl (.inl rfl)) _).setCell (p:=⟨w.heap.size,4,none⟩) (.inl (.inl rfl)) _)
   ·have e0:(c'.left == 0)=false:=by simp[hl0]
    cases hr:di (ah c'.S.l i).kind
    ·have HV:Hid (F5 i c'=bu c'.filled 0 c'.left c'.first c'.count∧nN i c'=c'.S.cu i { ah c'.S.l i with aG:=wrap64 ((ah c'.S.l i).aG+c'.left) }):=⟨by unfold F5;rw[if_neg hl0,if_neg (by rw[hr];simp)],by unfold nN;rw[if_neg hl0,if_neg (by rw[hr];simp)]⟩
     have hst:=(ae HCM).st.fM (ae zU) (by rw[ae HN];exact hiN) (j:=10) (by omega) (.int .i64 (wrap64 ((ah c'.S.l i).aG+c'.left))) { ah c'.S.l i with aG:=wrap64 ((ah c'.S.l i).aG+c'.left) } rfl
     obtain⟨m3,mY⟩:=(ae HCM).next (w2:=wr.setCell ⟨g,i * 13+10,none⟩ (.int .i64 (wrap64 ((ah c'.S.l i).aG+c'.left)))) ⟨mr,hst.1,fun b hb=>.inl hb,hst.2⟩
     have qO:=hide mY
     have HRR:Hid (∀W,Calls Tryz.prog 202 #[.int .i64 (ah c'.S.l i).kind] W fun e w'=>e=.returned (.bool false)∧w'=W):=fun W=>by rw[←hr];exact sD _ W
     clear hl0 hr hst mY
     rcases hd with d0 | ⟨d0,hb⟩
     ·go_wp2_with (go_at_call 202;refine (ae HRR _).mono ?_;rintro e w' ⟨rfl,hw'⟩;rw[hw'];clear hw' w')
      go_region
      go_wp2
      refine bodyPost_ret (Dt _ w.heap.size _ c'.filled 0 c'.left c'.first c'.count rfl ?_) rfl ⟨by rw[(ae HV).1],?_⟩
      ·exact ((((((((ae qO).z.other (a:=⟨w.heap.size+1,2,none⟩) (by simp) (.int .i64 c'.left)).set 0 (.int .i64 c'.filled)).set 1 (.int .i64 0)).set 2 (.int .i64 c'.left)).set 3 (.int .i64 c'.first)).set 4 (.int .i64 c'.count)).drew)
      ·rw[(ae HV).2]
       exact (ae qO).fin (((((((ag.refl (fun x=>x=w.heap.size∨x=w.heap.size+1) _).setCell (p:=⟨w.heap.size+1,2,none⟩) (.inl (.inr rfl)) _).setCell (p:=⟨w.heap.size,0,none⟩) (.inl (.inl rfl)) _).setCell (p:=⟨w.heap.size,1,none⟩) (.inl (.inl rfl)) _).setCell (p:=⟨w.heap.size,2,none⟩) (.inl (.inl rfl)) _).setCell (p:=⟨w.heap.size,3,none⟩) (.inl (.inl rfl)) _).setCell (p:=⟨w.heap.size,4,none⟩) (.inl (.inl rfl)) _).drew
     ·have hoi:oi (c'.best i) = -1:=by rw[hb];rfl
      clear hb
      go_wp2_with (go_at_call 202;refine (ae HRR _).mono ?_;rintro e w' ⟨rfl,hw'⟩;rw[hw'];clear hw' w')
      go_region
      go_wp2
      refine bodyPost_ret (Dt _ w.heap.size _ c'.filled 0 c'.left c'.first c'.count rfl ?_) rfl ⟨by rw[(ae HV).1],?_⟩
      ·exact ((((((((ae qO).z.other (a:=⟨w.heap.size+1,2,none⟩) (by simp) (.int .i64 c'.left)).set 0 (.int .i64 c'.filled)).set 1 (.int .i64 0)).set 2 (.int .i64 c'.left)).set 3 (.int .i64 c'.first)).set 4 (.int .i64 c'.count)).drew)
      ·rw[(ae HV).2]
       exact (ae qO).fin (((((((ag.refl (fun x=>x=w.heap.size∨x=w.heap.size+1) _).setCell (p:=⟨w.heap.size+1,2,none⟩) (.inl (.inr rfl)) _).setCell (p:=⟨w.heap.size,0,none⟩) (.inl (.inl rfl)) _).setCell (p:=⟨w.heap.size,1,none⟩) (.inl (.inl rfl)) _).setCell (p:=⟨w.heap.size,2,none⟩) (.inl (.inl rfl)) _).setCell (p:=⟨w.heap.size,3,none⟩) (.inl (.inl rfl)) _).setCell (p:=⟨w.heap.size,4,none⟩) (.inl (.inl rfl)) _).drew
    ·have HV:Hid (F5 i c'=bu c'.filled c'.left 0 c'.first c'.count∧nN i c'=c'.S.stand i c'.left):=⟨by unfold F5;rw[if_neg hl0,if_pos hr],by unfold nN;rw[if_neg hl0,if_pos hr]⟩
     have HRR:Hid (∀W,Calls Tryz.prog 202 #[.int .i64 (ah c'.S.l i).kind] W fun e w'=>e=.returned (.bool true)∧w'=W):=fun W=>by rw[←hr];exact sD _ W
     have VN:=hide (ae HST wr c'.S mr c'.left (ae HCM).st (ae HN))
     have hoi:(decide (0<c'.left)=false)∨(decide (0<c'.left)=true∧oi (c'.best i) = -1):=hd.imp (fun h=>h) (fun h=>⟨h.1,by rw[h.2];rfl⟩)
     clear hl0 hr hd
     rcases hoi with d0 | ⟨d0,hoi⟩
     all_goals
      go_wp2_with (first
       | (go_at_call 202;refine (ae HRR _).mono ?_;rintro e w' ⟨rfl,hw'⟩;rw[hw'];clear hw' w')
       | (go_at_call 203;refine (ae VN).mono ?_;rintro e w3 ⟨rfl,hn3⟩;obtain⟨m3,mY⟩:=(ae HCM).next hn3;have y0:=mY.r.cell 0;have y1:=mY.r.cell 1;have y2:=mY.r.cell 2;have y3:=mY.r.cell 3;have y4:=mY.r.cell 4;have q0:=mY.z.cell 0;have q1:=mY.z.cell 1;have q2:=mY.z.cell 2;have q3:=mY.z.cell 3;have q4:=mY.z.cell 4;have g1:=mY.r.frozen 1;have p0:=mY.z.frozen 0;have p1:=mY.z.frozen 1;have p2:=mY.z.frozen 2;have p3:=mY.z.frozen 3;have p4:=mY.z.frozen 4;simp[aB]at y0 y1 y2 y3 y4 q0 q1 q2 q3 q4;have qO:=hide mY;clear mY hn3))
      refine bodyPost_ret (Dt _ w.heap.size _ c'.filled c'.left 0 c'.first c'.count rfl ?_) rfl ⟨by rw[(ae HV).1],?_⟩
      ·exact (((((((ae qO).z.other (a:=⟨w.heap.size+1,1,none⟩) (by simp) (.int .i64 c'.left)).set 0 (.int .i64 c'.filled)).set 1 (.int .i64 c'.left)).set 2 (.int .i64 0)).set 3 (.int .i64 c'.first)).set 4 (.int .i64 c'.count))
      ·rw[(ae HV).2]
       exact (ae qO).fin (((((((ag.refl (fun x=>x=w.heap.size∨x=w.heap.size+1) _).setCell (p:=⟨w.heap.size+1,1,none⟩) (.inl (.inr rfl)) _).setCell (p:=⟨w.heap.size,0,none⟩) (.inl (.inl rfl)) _).setCell (p:=⟨w.heap.size,1,none⟩) (.inl (.inl rfl)) _).setCell (p:=⟨w.heap.size,2,none⟩) (.inl (.inl rfl)) _).setCell (p:=⟨w.heap.size,3,none⟩) (.inl (.inl rfl)) _).setCell (p:=⟨w.heap.size,4,none⟩) (.inl (.inl rfl)) _)
  ·have hkN:k<N:=by rw[←ae HN];exact NC hk
   have hik:=Qz hk
   have ZL:=hide he2
   have wQ:=hide (Gw c i k)
   have J8:=hide (DJ c i k)
   have HSO:=hide (U5 c (k:=k) (by rw[ae HN];exact hiN) hik)
   have d0:decide (0<c.left)=true:=by simpa using hl
   have hoi:oi (c.best i)=(k:Int):=by rw[hk];rfl
   have xi1:wr.cell? ⟨g,i * 13+1,none⟩=some (.int .i64 (ah c.S.l i).owner):=hc i hiN 1 _ rfl
   have xk1:wr.cell? ⟨g,k * 13+1,none⟩=some (.int .i64 (ah c.S.l k).owner):=hc k hkN 1 _ rfl
   have xk8:wr.cell? ⟨g,k * 13+8,none⟩=some (.int .i64 (ah c.S.l k).opn):=hc k hkN 8 _ rfl
   by_cases ho1:(ah c.S.l k).owner=(ah c.S.l i).owner
   ·have e1:((ah c.S.l k).owner == (ah c.S.l i).owner)=true:=by simp[ho1]
    have J9:Hid (c.step i k={ c with S:=c.S.cu k { ah c.S.l k with aG:=wrap64 ((ah c.S.l k).aG+(ah c.S.l k).opn),opn:=0 } }):=by show _=_;unfold RC.step;rw[if_pos ho1]
    have aaX:wr.cell? ⟨g,k * 13+10,none⟩=some (.int .i64 (ah c.S.l k).aG):=hc k hkN 10 _ rfl
    have x0:wr.cell? ⟨g,i * 13,none⟩=some (.int .i64 (ah c.S.l i).id):=hc i hiN 0 _ rfl
    have x2:wr.cell? ⟨g,i * 13+2,none⟩=some (.string (ah c.S.l i).sym):=hc i hiN 2 _ rfl
    have x3:wr.cell? ⟨g,i * 13+3,none⟩=some (.int .i64 (ah c.S.l i).side):=hc i hiN 3 _ rfl
    have x4:wr.cell? ⟨g,i * 13+4,none⟩=some (.int .i64 (ah c.S.l i).kind):=hc i hiN 4 _ rfl
    have x5:wr.cell? ⟨g,i * 13+5,none⟩=some (.int .i64 (ah c.S.l i).price):=hc i hiN 5 _ rfl
    have x6:wr.cell? ⟨g,i * 13+6,none⟩=some (.int .i64 (ah c.S.l i).qty):=hc i hiN 6 _ rfl
    have f10:=hf (k * 13+10)
    have f8:=hf (k * 13+8)
    have n1:¬k * 13+8=k * 13+10:=by omega
    have HS2:Hid (∀W,Cm base sb m w c mr W→Cm base sb m w (c.step i k) mr ((W.setCell ⟨g,k * 13+10,none⟩ (.int .i64 (wrap64 ((ah c.S.l k).aG+(ah c.S.l k).opn)))).setCell ⟨g,k * 13+8,none⟩ (.int .i64 0))):=by
     intro W cw
     have hk':k<c.S.l.length:=by rw[ae HN];exact hkN
     obtain⟨p1,q1⟩:=cw.st.fM (ae zU) hk' (j:=10) (by omega) (.int .i64 (wrap64 ((ah c.S.l k).aG+(ah c.S.l k).opn))) { ah c.S.l k with aG:=wrap64 ((ah c.S.l k).aG+(ah c.S.l k).opn) } rfl
     obtain⟨p2,q2⟩:=p1.fM (i:=k) (by simp only[List.length_set];exact ae zU) (by simp only[List.length_set];exact hk') (j:=8) (by omega) (.int .i64 0) { ah c.S.l k with aG:=wrap64 ((ah c.S.l k).aG+(ah c.S.l k).opn),opn:=0 } (by simp only;rw[bG hk'];rfl)
     have kk:=q1.trans q2
     rw[ae J9]
     simp only[List.set_set]at p2
     exact⟨p2,cw.sf,kk.blk cw.r (cw.st.ne cw.r (by decide)),kk.blk cw.z (cw.st.ne cw.z (by decide)),cw.gY.from (kk.mono cw.sf)⟩
    have HB2:Hid (∀W,bH W base sb (c.step i k).S mr→Calls Tryz.prog 199 #[.pointer (some ⟨sb,0,none⟩),.agg #[.int .i64 (ah c.S.l i).id,.int .i64 (ah c.S.l i).owner,.string (ah c.S.l i).sym,.int .i64 (ah c.S.l i).side,.int .i64 (ah c.S.l i).kind,.int .i64 (ah c.S.l i).price,.int .i64 (ah c.S.l i).qty]] W fun e w'=>e=.returned (.int .i64 (oi ((c.step i k).best i)))∧ag ak W w'):=fun W hW=>by
     have:=ae HB W _ mr hW (by rw[ae wQ];exact ae HN)
     have e2:ah (c.step i k).S.l i=ah c.S.l i:=by rw[ae J9];simp only[RS.cu];exact iK hik.symm
     unfold RC.best RC.o
     rw[e2]at this ⊢
     exact this
    clear hc hf ho1 hk hl he2
    go_wp2
    go_quiet (fail)
    go_wp2
    go_region
    go_wp2_with fail
    refine (ae HB2 _ ?st).mono ?_
    case st=>exact (ae HS2 _ ((ae HCM).ext ((ag.refl _ _).drewN _))).st
    rintro e w3 ⟨rfl,k3⟩
    have qO:Hid (Cm base sb m w (c.step i k) mr w3):=(ae HS2 _ ((ae HCM).ext ((ag.refl _ _).drewN _))).ext k3
    clear k3
    go_wp2
    go_roundg q
    case measure=>omega
    case rel=>exact⟨c.step i k,mr,by rw[ae J9],rfl,ae qO,ae ZL,by rw[ae wQ];exact ae HN,by have:=ae J8;omega,by have:=ae J8;omega⟩
   ·have e1:((ah c.S.l k).owner == (ah c.S.l i).owner)=false:=by simp[ho1]
    have J9:Hid (c.step i k=⟨c.S.dZ i k (c.much k),wrap64 (c.left-c.much k),wrap64 (c.filled+c.much k),wrap64 (c.count+1),if wrap64 (c.count+1)=1 then (c.S.t.length:Int)+1 else c.first⟩):=by show _=_;unfold RC.step;rw[if_neg ho1]
    have YS:Hid (∀n m3 W,n=c.much k→Cm base sb m w { c with S:=c.S.dZ i k n } m3 W→∃g3 c3 a3 t3,W.cell? ⟨sb,1,none⟩=some (.slice (some ⟨g3,0,none⟩) N c3)∧W.cell? ⟨sb,2,none⟩=some (.slice a3 (c.S.t.length+1) t3)∧g3≠w.heap.size+1∧g3<W.heap.size∧W.cell? ⟨g3,i * 13,none⟩=some (.int .i64 (ah c.S.l i).id)∧W.cell? ⟨g3,i * 13+1,none⟩=some (.int .i64 (ah c.S.l i).owner)∧W.cell? ⟨g3,i * 13+2,none⟩=some (.string (ah c.S.l i).sym)∧W.cell? ⟨g3,i * 13+3,none⟩=some (.int .i64 (ah c.S.l i).side)∧W.cell? ⟨g3,i * 13+4,none⟩=some (.int .i64 (ah c.S.l i).kind)∧W.cell? ⟨g3,i * 13+5,none⟩=some (.int .i64 (ah c.S.l i).price)∧W.cell? ⟨g3,i * 13+6,none⟩=some (.int .i64 (ah c.S.l i).qty)):=by
     intro n m3 W hn cw
     obtain⟨g3,c3,u1,_,_,Zg,⟨cs,hcs⟩,hc3,_⟩:=cw.st.see (N:=N) (by simp only[RS.dZ,RS.fills,RS.cu,List.length_set];exact ae HN) (by omega)
     obtain⟨a3,t3,hv3⟩:=az cw.st.dE
     have e3:ah (c.S.dZ i k n).l i={ ah c.S.l i with filled:=wrap64 ((ah c.S.l i).filled+n) }:=by
      simp only[RS.dZ,RS.fills,RS.cu]
      rw[bG (by simp only[List.length_set];rw[ae HN];exact hiN)]
     have hx:=hc3 i hiN
     simp only at hx
     rw[e3]at hx
     have u2:=cw.st.blk.cell 2
     simp only[RS.dZ,List.length_append,List.length_cons,List.length_nil]at hv3
     refine⟨g3,c3,a3,t3,u1,?_,ai.ne hcs cw.r (by decide),Zg,hx 0 _ rfl,hx 1 _ rfl,hx 2 _ rfl,hx 3 _ rfl,hx 4 _ rfl,hx 5 _ rfl,hx 6 _ rfl⟩
     rw[u2,←hv3];rfl
    have HB2:Hid (∀W m4,bH W base sb (c.step i k).S m4→Calls Tryz.prog 199 #[.pointer (some ⟨sb,0,none⟩),.agg #[.int .i64 (ah c.S.l i).id,.int .i64 (ah c.S.l i).owner,.string (ah c.S.l i).sym,.int .i64 (ah c.S.l i).side,.int .i64 (ah c.S.l i).kind,.int .i64 (ah c.S.l i).price,.int .i64 (ah c.S.l i).qty]] W fun e w'=>e=.returned (.int .i64 (oi ((c.step i k).best i)))∧ag ak W w'):=fun W m4 hW=>by
     have:=ae HB W _ m4 hW (by rw[ae wQ];exact ae HN)
     have e2:=ae HSO
     unfold RC.o at e2
     have e3:(ah (c.step i k).S.l i).id=(ah c.S.l i).id∧(ah (c.step i k).S.l i).owner=(ah c.S.l i).owner∧(ah (c.step i k).S.l i).sym=(ah c.S.l i).sym∧(ah (c.step i k).S.l i).side=(ah c.S.l i).side∧(ah (c.step i k).S.l i).kind=(ah c.S.l i).kind∧(ah (c.step i k).S.l i).price=(ah c.S.l i).price∧(ah (c.step i k).S.l i).qty=(ah c.S.l i).qty:=by
      simpa [aV] using e2
     obtain⟨a0,a1,a2,a3,a4,a5,a6⟩:=e3
     rw[a0,a1,a2,a3,a4,a5,a6]at this
     exact this
    have YM:Hid (∀W,Cm base sb m w c mr W→Calls Tryz.prog 201 #[.pointer (some ⟨sb,0,none⟩),.int .i64 (i:Int),.int .i64 (k:Int),.int .i64 (c.much k)] W fun e w'=>e=.returned (.tuple #[])∧fP base sb (c.S.dZ i k (c.much k)) mr W w'):=fun W cw=>ae HT W c.S mr k _ cw.st (ae HN) hkN hik (by omega) (by omega)
    have Qn:Hid (∀m3 W,Cm base sb m w { c with S:=c.S.dZ i k (c.much k) } m3 W→∀fst,fst=(if wrap64 (c.count+1)=1 then (c.S.t.length:Int)+1 else c.first)→∀W',ag (fun b=>b=w.heap.size+1) W W'→ai W' (w.heap.size+1) #[.int .i64 (wrap64 (c.filled+c.much k)),.int .i64 0,.int .i64 0,.int .i64 fst,.int .i64 (wrap64 (c.count+1))] 87→Cm base sb m w (c.step i k) m3 W'):=by
     intro m3 W cw fst uF W' kW bW
     rw[ae J9,←uF]
     exact cw.put rfl kW bW
    have hmu:(decide ((ah c.S.l k).opn<c.left)=true∧c.much k=(ah c.S.l k).opn)∨(decide ((ah c.S.l k).opn<c.left)=false∧c.much k=c.left):=by
     unfold RC.much
     by_cases h1:(ah c.S.l k).opn<c.left
     ·left;exact⟨by simpa using h1,if_pos h1⟩
     ·right;exact⟨by simpa using h1,if_neg h1⟩
    have hcnt:((wrap64 (c.count+1) == 1)=true∧(c.S.t.length:Int)+1=(if wrap64 (c.count+1)=1 then (c.S.t.length:Int)+1 else c.first))∨((wrap64 (c.count+1) == 1)=false∧c.first=(if wrap64 (c.count+1)=1 then (c.S.t.length:Int)+1 else c.first)):=by
     by_cases h1:wrap64 (c.count+1)=1
     ·left;exact⟨by simp[h1],by rw[if_pos h1]⟩
     ·right;exact⟨by simp[h1],by rw[if_neg h1]⟩
    clear hc hf ho1 hk hl he2
    rcases hcnt with⟨e3,uF⟩ | ⟨e3,uF⟩
    ·rcases hmu with⟨e2,hmu⟩ | ⟨e2,hmu⟩
     all_goals
      have ZO:=hide uF
      have V4:=hide hmu
      clear uF hmu
      rw[ae V4]at YM Qn YS
      go_wp2
      go_quiet (fail)
      go_wp2_with (first
       | (go_at_call 201;refine (ae YM _ ((ae HCM).ext ((ag.refl _ _).drewN _))).mono ?_;rintro e w3 ⟨rfl,hn3⟩;obtain⟨m3,mY⟩:=((ae HCM).ext ((ag.refl ak wr).drewN _)).next hn3;obtain⟨g3,c3,a3,t3,u1,u2,ng3,Zg,y0,y1,y2,y3,y4,y5,y6⟩:=ae YS _ m3 w3 rfl mY;have aaE:=ng3.symm;have q0:=mY.r.cell 0;have q3:=mY.r.cell 3;have q4:=mY.r.cell 4;simp at q0 q3 q4;have p0:=mY.r.frozen 0;have p3:=mY.r.frozen 3;have p4:=mY.r.frozen 4;have qO:=hide mY;clear mY hn3)
       | fail)
      have VR:=hide (ae Qn m3 w3 (ae qO) _ (ae ZO))
      refine (ae HB2 _ m3 (ae VR _ ?kW ?bW).st).mono ?_
      case kW=>exact (((ag.refl (fun b=>b=w.heap.size+1) w3).setCell (p:=⟨w.heap.size+1,0,none⟩) (.inl rfl) _).setCell (p:=⟨w.heap.size+1,4,none⟩) (.inl rfl) _).setCell (p:=⟨w.heap.size+1,3,none⟩) (.inl rfl) _
      case bW=>exact (((ae qO).r.set 0 _).set 4 _).set 3 _
      rintro e w5 ⟨rfl,k5⟩
      have ZI:Hid (Cm base sb m w (c.step i k) m3 w5):=by
       refine (ae VR _ ?kW ?bW).ext k5
       case kW=>exact (((ag.refl (fun b=>b=w.heap.size+1) w3).setCell (p:=⟨w.heap.size+1,0,none⟩) (.inl rfl) _).setCell (p:=⟨w.heap.size+1,4,none⟩) (.inl rfl) _).setCell (p:=⟨w.heap.size+1,3,none⟩) (.inl rfl) _
       case bW=>exact (((ae qO).r.set 0 _).set 4 _).set 3 _
      have TA:Hid ((c.step i k).left=wrap64 (c.left-c.much k)):=by show _=_;rw[ae J9]
      rw[ae V4]at TA
      clear k5
      go_wp2
      go_roundg q
      case measure=>omega
      case rel=>exact⟨c.step i k,m3,by first | (rw[ae TA];done) | (rw[ae TA,Int.sub_self,aF (by decide) (by decide)]),rfl,ae ZI,ae ZL,by rw[ae wQ];exact ae HN,by have:=ae J8;omega,by have:=ae J8;omega⟩
    ·rcases hmu with⟨e2,hmu⟩ | ⟨e2,hmu⟩
     all_goals
      have ZO:=hide uF
      have V4:=hide hmu
      clear uF hmu
      rw[ae V4]at YM Qn YS
      go_wp2
      go_quiet (fail)
      go_wp2_with (first
       | (go_at_call 201;refine (ae YM _ ((ae HCM).ext ((ag.refl _ _).drewN _))).mono ?_;rintro e w3 ⟨rfl,hn3⟩;obtain⟨m3,mY⟩:=((ae HCM).ext ((ag.refl ak wr).drewN _)).next hn3;obtain⟨g3,c3,a3,t3,u1,u2,ng3,Zg,y0,y1,y2,y3,y4,y5,y6⟩:=ae YS _ m3 w3 rfl mY;have aaE:=ng3.symm;have q0:=mY.r.cell 0;have q3:=mY.r.cell 3;have q4:=mY.r.cell 4;simp at q0 q3 q4;have p0:=mY.r.frozen 0;have p3:=mY.r.frozen 3;have p4:=mY.r.frozen 4;have qO:=hide mY;clear mY hn3)
       | fail)
      have VR:=hide (ae Qn m3 w3 (ae qO) _ (ae ZO))
      refine (ae HB2 _ m3 (ae VR _ ?kW ?bW).st).mono ?_
      case kW=>exact ((ag.refl (fun b=>b=w.heap.size+1) w3).setCell (p:=⟨w.heap.size+1,0,none⟩) (.inl rfl) _).setCell (p:=⟨w.heap.size+1,4,none⟩) (.inl rfl) _
      case bW=>exact ((ae qO).r.set 0 _).set 4 _
      rintro e w5 ⟨rfl,k5⟩
      have ZI:Hid (Cm base sb m w (c.step i k) m3 w5):=by
       refine (ae VR _ ?kW ?bW).ext k5
       case kW=>exact ((ag.refl (fun b=>b=w.heap.size+1) w3).setCell (p:=⟨w.heap.size+1,0,none⟩) (.inl rfl) _).setCell (p:=⟨w.heap.size+1,4,none⟩) (.inl rfl) _
       case bW=>exact ((ae qO).r.set 0 _).set 4 _
      have TA:Hid ((c.step i k).left=wrap64 (c.left-c.much k)):=by show _=_;rw[ae J9]
      rw[ae V4]at TA
      clear k5
      go_wp2
      go_roundg q
      case measure=>omega
      case rel=>exact⟨c.step i k,m3,by first | (rw[ae TA];done) | (rw[ae TA,Int.sub_self,aF (by decide) (by decide)]),rfl,ae ZI,ae ZL,by rw[ae wQ];exact ae HN,by have:=ae J8;omega,by have:=ae J8;omega⟩
end Go.Proofs.YtigaphnafnpfnaaGreatDoor
