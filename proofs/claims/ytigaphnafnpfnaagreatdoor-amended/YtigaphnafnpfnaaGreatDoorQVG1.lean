import Derived.Test.YtigaphnafnpfnaaGreatDoorQVK1T
import Derived.Test.YtigaphnafnpfnaaGreatDoorQVK1R
import Derived.Test.YtigaphnafnpfnaaGreatDoorQVS1
import Derived.Test.YtigaphnafnpfnaaGreatDoorQVR1
set_option linter.unusedVariables false
set_option linter.unusedSimpArgs false
set_option maxHeartbeats 8000000
set_option maxRecDepth 100000
namespace Go.Proofs.YtigaphnafnpfnaaGreatDoor
open Go.RowKit
attribute [local go_sem ↓] Go.wp_at_zero Go.wp_at_succ
def DY(w:World)(et k:Nat)(M:Nat→List Value)(v:Value):Prop:=∃a n c,v=.slice a n c∧n≤1000000100∧(n=0∨∃g cs,a=some ⟨g,0,none⟩∧ai w g cs et∧cs.toList.take (n * k)=M n)
theorem DY.kept{w w':World}{et k:Nat}{M:Nat→List Value}{v:Value}(h:DY w et k M v){K:Nat→Prop}(kc:ag K w w')(hK:∀b,v.ownBlock=some b→¬K b):DY w' et k M v:=by
 obtain⟨a,n,c,rfl,hn,h1⟩:=h
 refine⟨a,n,c,rfl,hn,?_⟩
 rcases h1 with h1 | ⟨g,cs,rfl,h2,h3⟩
 ·exact .inl h1
 ·exact .inr ⟨g,cs,rfl,kc.blk h2 (hK g rfl),h3⟩
structure Ho where
 hb:Nat
 lv:Value
 tv:Value
 rv:Value
 ls:List Value
 ts:List Value
 rs:List Value
 Vy:Int
structure GZ(w:World)(h:Ho):Prop where
 blk:ai w h.hb #[h.lv,h.tv,h.rv,.int .i64 h.Vy] 178
 bI:w.ownsRow 0 63 1 h.lv h.ls.length h.ls
 dE:w.ownsRow 0 39 1 h.tv h.ts.length h.ts
 uS:w.ownsRow 0 34 1 h.rv h.rs.length h.rs
 le:∀v∈h.ls,DY w 93 3 (marks h.Vy) v
 te:∀v∈h.ts,DY w 56 7 (dB h.Vy) v
 re:∀v∈h.rs,DY w 62 9 (dA h.Vy) v
 len:h.ls.length≤1000∧h.ts.length≤1000∧h.rs.length≤1000
def Vl(h:Ho)(b:Nat):Prop:=b=h.hb∨(h.lv.ownBlock=some b∨h.tv.ownBlock=some b∨h.rv.ownBlock=some b)∨∃v∈h.ls++(h.ts++h.rs),v.ownBlock=some b
theorem GZ.kept{w w':World}{h:Ho}(x:GZ w h){K:Nat→Prop}(k:ag K w w')(hK:∀b,Vl h b→¬K b):GZ w' h :=
 ⟨k.blk x.blk (hK _ (.inl rfl)),au x.bI k (fun b hb=>hK b (.inr (.inl (.inl hb)))),au x.dE k (fun b hb=>hK b (.inr (.inl (.inr (.inl hb))))),au x.uS k (fun b hb=>hK b (.inr (.inl (.inr (.inr hb))))),fun v hv=>(x.le v hv).kept k (fun b hb=>hK b (.inr (.inr ⟨v,by simp[hv],hb⟩))),fun v hv=>(x.te v hv).kept k (fun b hb=>hK b (.inr (.inr ⟨v,by simp[hv],hb⟩))),fun v hv=>(x.re v hv).kept k (fun b hb=>hK b (.inr (.inr ⟨v,by simp[hv],hb⟩))),x.len⟩
theorem DY.atL{w:World}{mk:Int}{a:Option Addr}{n c:Nat}(h:DY w 93 3 (marks mk) (.slice a n c)){j:Nat}(hj:j<n):∃g,a=some ⟨g,0,none⟩∧g<w.heap.size∧w.cell? ⟨g,j * 3,none⟩=some (.int .i64 mk)∧w.cell? ⟨g,j * 3+1,none⟩=some (.int .i64 0)∧w.cell? ⟨g,j * 3+2,none⟩=some (.int .i64 0):=by
 obtain⟨a',k',c',e,_,h1⟩:=h
 injection e with e1 e2 e3
 subst e1 e2 e3
 rcases h1 with h1 | ⟨g,cs,rfl,h2,h3⟩
 ·omega
 ·refine⟨g,rfl,h2.lt,?_⟩
  have key:∀i,i<3→w.cell? ⟨g,j * 3+i,none⟩=[Value.int .i64 mk,.int .i64 0,.int .i64 0][i]?:=fun i hi=>by
   rw[h2.cell,←tJ mk hj hi,←h3,List.getElem?_take,if_pos (by omega),Array.getElem?_toList]
  exact⟨key 0 (by omega),key 1 (by omega),key 2 (by omega)⟩
theorem DY.atT{w:World}{mk:Int}{a:Option Addr}{n c:Nat}(h:DY w 56 7 (dB mk) (.slice a n c)){j:Nat}(hj:j<n):∃g,a=some ⟨g,0,none⟩∧g<w.heap.size∧w.cell? ⟨g,j * 7,none⟩=some (.int .i64 mk)∧w.cell? ⟨g,j * 7+1,none⟩=some (.string ⟨#[]⟩)∧w.cell? ⟨g,j * 7+2,none⟩=some (.int .i64 0)∧w.cell? ⟨g,j * 7+3,none⟩=some (.int .i64 0)∧w.cell? ⟨g,j * 7+4,none⟩=some (.int .i64 0)∧w.cell? ⟨g,j * 7+5,none⟩=some (.int .i64 0)∧w.cell? ⟨g,j * 7+6,none⟩=some (.int .i64 0):=by
 obtain⟨a',k',c',e,_,h1⟩:=h
 injection e with e1 e2 e3
 subst e1 e2 e3
 rcases h1 with h1 | ⟨g,cs,rfl,h2,h3⟩
 ·omega
 ·refine⟨g,rfl,h2.lt,?_⟩
  have key:∀i,i<7→w.cell? ⟨g,j * 7+i,none⟩=[Value.int .i64 mk,.string ⟨#[]⟩,.int .i64 0,.int .i64 0,.int .i64 0,.int .i64 0,.int .i64 0][i]?:=fun i hi=>by
   rw[h2.cell,←jq mk hj hi,←h3,List.getElem?_take,if_pos (by omega),Array.getElem?_toList]
  exact⟨key 0 (by omega),key 1 (by omega),key 2 (by omega),key 3 (by omega),key 4 (by omega),key 5 (by omega),key 6 (by omega)⟩
theorem DY.atR{w:World}{mk:Int}{a:Option Addr}{n c:Nat}(h:DY w 62 9 (dA mk) (.slice a n c)){j:Nat}(hj:j<n):∃g,a=some ⟨g,0,none⟩∧g<w.heap.size∧w.cell? ⟨g,j * 9,none⟩=some (.int .i64 mk)∧w.cell? ⟨g,j * 9+1,none⟩=some (.int .i64 0)∧w.cell? ⟨g,j * 9+2,none⟩=some (.int .i64 0)∧w.cell? ⟨g,j * 9+3,none⟩=some (.string ⟨#[]⟩)∧w.cell? ⟨g,j * 9+4,none⟩=some (.int .i64 0)∧w.cell? ⟨g,j * 9+5,none⟩=some (.int .i64 0)∧w.cell? ⟨g,j * 9+6,none⟩=some (.int .i64 0)∧w.cell? ⟨g,j * 9+7,none⟩=some (.int .i64 0)∧w.cell? ⟨g,j * 9+8,none⟩=some (.int .i64 0):=by
 obtain⟨a',k',c',e,_,h1⟩:=h
 injection e with e1 e2 e3
 subst e1 e2 e3
 rcases h1 with h1 | ⟨g,cs,rfl,h2,h3⟩
 ·omega
 ·refine⟨g,rfl,h2.lt,?_⟩
  have key:∀i,i<9→w.cell? ⟨g,j * 9+i,none⟩=[Value.int .i64 mk,.int .i64 0,.int .i64 0,.string ⟨#[]⟩,.int .i64 0,.int .i64 0,.int .i64 0,.int .i64 0,.int .i64 0][i]?:=fun i hi=>by
   rw[h2.cell,←ig mk hj hi,←h3,List.getElem?_take,if_pos (by omega),Array.getElem?_toList]
  exact⟨key 0 (by omega),key 1 (by omega),key 2 (by omega),key 3 (by omega),key 4 (by omega),key 5 (by omega),key 6 (by omega),key 7 (by omega),key 8 (by omega)⟩
theorem Iw(h:Ho)(w:World)(hk:GZ w h):Calls Tryz.prog 62 #[.pointer (some ⟨h.hb,0,none⟩)] w fun e w'=>e=.returned (.bool true)∧ag ak w w':=by
 obtain⟨hb,lv,tv,rv,ls,ts,rs,mk⟩:=h
 have hbl:=hk.blk
 have hlen:=hk.len
 simp only at hbl hlen
 have Ru:=hk.bI
 simp only at Ru
 obtain⟨aL,cL,rfl⟩:=az Ru
 have h0:w.cell? ⟨hb,0,none⟩=some (.slice aL ls.length cL):=hbl.cell 0
 have HRL:Hid (∀i,i<ls.length→∃g a k c,aL=some ⟨g,0,none⟩∧g<w.heap.size∧w.cell? ⟨g,i,none⟩=some (.slice a k c)∧k≤1000000100∧DY w 93 3 (marks mk) (.slice a k c)):=fun i hi=>by
  obtain⟨v,hv⟩:∃v,ls[i]?=some v:=⟨_,List.getElem?_eq_getElem hi⟩
  obtain⟨g,e,l,hc⟩:=wO Ru rfl hv
  have hs:DY w 93 3 (marks mk) v:=hk.le v (List.mem_of_getElem? hv)
  have hs2:=hs
  obtain⟨a,k,c,rfl,vO,_⟩:=hs2
  exact⟨g,a,k,c,e,l,hc,vO,hs⟩
 obtain⟨nL,hnL⟩:∃n,ls.length=n:=⟨_,rfl⟩
 rw[hnL]at HRL h0 hlen
 have rowT:=hk.dE
 simp only at rowT
 obtain⟨aT,cT,rfl⟩:=az rowT
 have h1:w.cell? ⟨hb,1,none⟩=some (.slice aT ts.length cT):=hbl.cell 1
 have HRT:Hid (∀i,i<ts.length→∃g a k c,aT=some ⟨g,0,none⟩∧g<w.heap.size∧w.cell? ⟨g,i,none⟩=some (.slice a k c)∧k≤1000000100∧DY w 56 7 (dB mk) (.slice a k c)):=fun i hi=>by
  obtain⟨v,hv⟩:∃v,ts[i]?=some v:=⟨_,List.getElem?_eq_getElem hi⟩
  obtain⟨g,e,l,hc⟩:=wO rowT rfl hv
  have hs:DY w 56 7 (dB mk) v:=hk.te v (List.mem_of_getElem? hv)
  have hs2:=hs
  obtain⟨a,k,c,rfl,vO,_⟩:=hs2
  exact⟨g,a,k,c,e,l,hc,vO,hs⟩
 obtain⟨nT,hnT⟩:∃n,ts.length=n:=⟨_,rfl⟩
 rw[hnT]at HRT h1 hlen
 have Rw:=hk.uS
 simp only at Rw
 obtain⟨aR,cR,rfl⟩:=az Rw
 have h2:w.cell? ⟨hb,2,none⟩=some (.slice aR rs.length cR):=hbl.cell 2
 have HRR:Hid (∀i,i<rs.length→∃g a k c,aR=some ⟨g,0,none⟩∧g<w.heap.size∧w.cell? ⟨g,i,none⟩=some (.slice a k c)∧k≤1000000100∧DY w 62 9 (dA mk) (.slice a k c)):=fun i hi=>by
  obtain⟨v,hv⟩:∃v,rs[i]?=some v:=⟨_,List.getElem?_eq_getElem hi⟩
  obtain⟨g,e,l,hc⟩:=wO Rw rfl hv
  have hs:DY w 62 9 (dA mk) v:=hk.re v (List.mem_of_getElem? hv)
  have hs2:=hs
  obtain⟨a,k,c,rfl,vO,_⟩:=hs2
  exact⟨g,a,k,c,e,l,hc,vO,hs⟩
 obtain⟨nR,hnR⟩:∃n,rs.length=n:=⟨_,rfl⟩
 rw[hnR]at HRR h2 hlen
 have h3:w.cell? ⟨hb,3,none⟩=some (.int .i64 mk):=hbl.cell 3
 obtain⟨hl1,hl2,hl3⟩:=hlen
 clear hk hbl Ru rowT Rw hnL hnT hnR
 go_enter Tryz.func62,Tryz.ntmps62
 go_wp2
 go_loopg [3] nL (fun k iv wr=>∃i q:Nat,iv=.int .i64 (i:Int)∧i≤nL∧k=nL-i∧wr=w.drewN q)
 case atStart=>exact⟨0,0,rfl,Nat.zero_le _,rfl,rfl⟩
 case round =>
  obtain⟨i,qL,rfl,hi,hgk,rfl⟩:=hrel
  have RP:=hide hgk
  clear hgk
  by_cases hlt:i<nL
  ·obtain⟨g,a,k,c,rfl,lg,hc,vO,hsl⟩:=ae HRL i hlt
   have wQ:=hide hsl
   clear hsl
   go_wp2
   go_loopg [4] k (fun z jv wr=>∃j q2:Nat,jv=.int .i64 (j:Int)∧j≤k∧z=k-j∧wr=w.drewN q2)
   case atStart=>exact⟨0,qL,rfl,Nat.zero_le _,rfl,rfl⟩
   case round =>
    obtain⟨j,q2,rfl,hj,hgj,rfl⟩:=hrel
    by_cases hjl:j<k
    ·obtain⟨g2,rfl,Q5,y0,y1,y2⟩:=(ae wQ).atL hjl
     go_wp2
     go_quiet (fail)
     go_wp2
     go_roundg (k-(j+1))
     case measure=>omega
     case rel=>exact⟨j+1,q2+nq,by push_cast;rfl,by omega,rfl,by first | rfl | simp⟩
    ·obtain rfl:j=k:=by omega
     go_wp2
     go_roundg (nL-(i+1))
     case measure=>have:=ae RP;omega
     case rel=>exact⟨i+1,q2,by push_cast;rfl,by omega,rfl,rfl⟩
  ·obtain rfl:i=nL:=by omega
   clear HRL RP
   go_wp2
   go_loopg [5] nT (fun k iv wr=>∃i q:Nat,iv=.int .i64 (i:Int)∧i≤nT∧k=nT-i∧wr=w.drewN q)
   case atStart=>exact⟨0,qL,rfl,Nat.zero_le _,rfl,rfl⟩
   case round =>
    obtain⟨i,qT,rfl,hi,hgk,rfl⟩:=hrel
    have RP:=hide hgk
    clear hgk
    by_cases hlt:i<nT
    ·obtain⟨g,a,k,c,rfl,lg,hc,vO,hsl⟩:=ae HRT i hlt
     have wQ:=hide hsl
     clear hsl
     go_wp2
     go_loopg [6] k (fun z jv wr=>∃j q2:Nat,jv=.int .i64 (j:Int)∧j≤k∧z=k-j∧wr=w.drewN q2)
     case atStart=>exact⟨0,qT,rfl,Nat.zero_le _,rfl,rfl⟩
     case round =>
      obtain⟨j,q2,rfl,hj,hgj,rfl⟩:=hrel
      by_cases hjl:j<k
      ·obtain⟨g2,rfl,Q5,y0,y1,y2,y3,y4,y5,y6⟩:=(ae wQ).atT hjl
       go_wp2
       go_quiet (fail)
       go_wp2
       go_roundg (k-(j+1))
       case measure=>omega
       case rel=>exact⟨j+1,q2+nq,by push_cast;rfl,by omega,rfl,by first | rfl | simp⟩
      ·obtain rfl:j=k:=by omega
       go_wp2
       go_roundg (nT-(i+1))
       case measure=>have:=ae RP;omega
       case rel=>exact⟨i+1,q2,by push_cast;rfl,by omega,rfl,rfl⟩
    ·obtain rfl:i=nT:=by omega
     clear HRT RP
     go_wp2
     go_loopg [7] nR (fun k iv wr=>∃i q:Nat,iv=.int .i64 (i:Int)∧i≤nR∧k=nR-i∧wr=w.drewN q)
     case atStart=>exact⟨0,qT,rfl,Nat.zero_le _,rfl,rfl⟩
     case round =>
      obtain⟨i,qR,rfl,hi,hgk,rfl⟩:=hrel
      have RP:=hide hgk
      clear hgk
      by_cases hlt:i<nR
      ·obtain⟨g,a,k,c,rfl,lg,hc,vO,hsl⟩:=ae HRR i hlt
       have wQ:=hide hsl
       clear hsl
       go_wp2
       go_loopg [8] k (fun z jv wr=>∃j q2:Nat,jv=.int .i64 (j:Int)∧j≤k∧z=k-j∧wr=w.drewN q2)
       case atStart=>exact⟨0,qR,rfl,Nat.zero_le _,rfl,rfl⟩
       case round =>
        obtain⟨j,q2,rfl,hj,hgj,rfl⟩:=hrel
        by_cases hjl:j<k
        ·obtain⟨g2,rfl,Q5,y0,y1,y2,y3,y4,y5,y6,y7,y8⟩:=(ae wQ).atR hjl
         go_wp2
         go_quiet (fail)
         go_wp2
         go_roundg (k-(j+1))
         case measure=>omega
         case rel=>exact⟨j+1,q2+nq,by push_cast;rfl,by omega,rfl,by first | rfl | simp⟩
        ·obtain rfl:j=k:=by omega
         go_wp2
         go_roundg (nR-(i+1))
         case measure=>have:=ae RP;omega
         case rel=>exact⟨i+1,q2,by push_cast;rfl,by omega,rfl,rfl⟩
      ·obtain rfl:i=nR:=by omega
       clear HRR RP
       go_wp2
       go_ret
       exact⟨rfl,(ag.refl ak w).drewN _⟩
open Go.RowKit Go.Maps
def lF(h:Ho):Value:=.pointer (some ⟨h.hb,0,none⟩)
structure PG(w0 w:World)(wb:Nat)(X:List Pr)(Hs:List Ho)(pv hv:Value)(N:Nat):Prop where
 blk:ai w wb #[pv,hv] 78
 fU:w.ownsRow 0 131 2 pv X.length (lC X)
 hrow:w.ownsRow 0 133 1 hv Hs.length (Hs.map lF)
 AP:∀x∈X,jA w x∧x.N≤N
 sep:X.Pairwise (fun x y=>∀b,PF x b→¬PF y b)
 own:∀x∈X,∀b,PF x b→w0.heap.size≤b∧b≠wb∧pv.ownBlock≠some b∧hv.ownBlock≠some b∧∀h∈Hs,¬Vl h b
 hds:∀h∈Hs,GZ w h
 hown:∀h∈Hs,∀b,Vl h b→w0.heap.size≤b∧b≠wb∧pv.ownBlock≠some b∧hv.ownBlock≠some b∧b<w.heap.size
 ge:w0.heap.size≤wb∧(∀b,pv.ownBlock=some b→w0.heap.size≤b)∧(∀b,hv.ownBlock=some b→w0.heap.size≤b)
 gY:ag ak w0 w
 tab:Tab w0
 xl:X.length≤N+1
 hl:Hs.length≤N
theorem PG.kept{w0 w w':World}{wb:Nat}{X:List Pr}{Hs:List Ho}{pv hv:Value}{N:Nat}(h:PG w0 w wb X Hs pv hv N){K:Nat→Prop}(k:ag K w w')(hX:∀x∈X,∀b,PF x b→¬K b)(hH:∀x∈Hs,∀b,Vl x b→¬K b)(hw:¬K wb)(hp:∀b,pv.ownBlock=some b→¬K b)(hh:∀b,hv.ownBlock=some b→¬K b)(hge:∀b,K b→w0.heap.size≤b):PG w0 w' wb X Hs pv hv N :=
 ⟨k.blk h.blk hw,au h.fU k hp,au h.hrow k hh,fun x hx=>⟨(h.AP x hx).1.kept k (hX x hx),(h.AP x hx).2⟩,h.sep,h.own,fun x hx=>(h.hds x hx).kept k (hH x hx),fun x hx b hb=>by
  obtain⟨a1,a2,a3,a4,a5⟩:=h.hown x hx b hb
  exact⟨a1,a2,a3,a4,Nat.lt_of_lt_of_le a5 k.size⟩,h.ge,h.gY.from (k.mono (fun b hb=>.inr (hge b hb))),h.tab,h.xl,h.hl⟩
theorem PG.aj{w0 w w':World}{wb:Nat}{X:List Pr}{Hs:List Ho}{pv hv:Value}{N:Nat}(h:PG w0 w wb X Hs pv hv N)(k:ag ak w w'):PG w0 w' wb X Hs pv hv N :=
 h.kept k (fun _ _ _ _ z=>z) (fun _ _ _ _ z=>z) (fun z=>z) (fun _ _ z=>z) (fun _ _ z=>z) (fun _ z=>z.elim)
theorem PG.mono{w0 w:World}{wb:Nat}{X:List Pr}{Hs:List Ho}{pv hv:Value}{N N':Nat}(h:PG w0 w wb X Hs pv hv N)(hN:N≤N'):PG w0 w wb X Hs pv hv N' :=
 ⟨h.blk,h.fU,h.hrow,fun x hx=>⟨(h.AP x hx).1,Nat.le_trans (h.AP x hx).2 hN⟩,h.sep,h.own,h.hds,h.hown,h.ge,h.gY,h.tab,by have:=h.xl;omega,by have:=h.hl;omega⟩
theorem PG.turn{w0 w w':World}{wb:Nat}{X:List Pr}{Hs:List Ho}{pv hv:Value}{N i:Nat}{x:Pr}(h:PG w0 w wb X Hs pv hv N)(hi:X[i]?=some x)(hn:GN x w w'):∃X',PG w0 w' wb X' Hs pv hv (N+1)∧X'.length=X.length:=by
 obtain⟨x',p',k,f',e1,e2,e3⟩:=hn
 have hx:x∈X:=List.mem_of_getElem? hi
 have hil:=(List.getElem?_eq_some_iff.1 hi).1
 have ox:=h.own x hx
 have px:=h.AP x hx
 have hlen:(X.set i x').length=X.length:=by simp
 have old:∀j y,(X.set i x')[j]?=some y→(j=i∧y=x')∨(j≠i∧X[j]?=some y):=fun j y hj=>by
  by_cases e:i=j
  ·subst e
   rw[List.getElem?_set_self hil]at hj
   exact .inl ⟨rfl,(Option.some.inj hj).symm⟩
  ·rw[List.getElem?_set_ne e]at hj
   exact .inr ⟨fun z=>e z.symm,hj⟩
 have hpw:=List.pairwise_iff_getElem.1 h.sep
 have apart:∀j y,j≠i→X[j]?=some y→∀b,PF y b→¬PF x b:=fun j y hj hy b hb hb2=>by
  obtain⟨hjl,ej⟩:=List.getElem?_eq_some_iff.1 hy
  obtain⟨_,ei⟩:=List.getElem?_eq_some_iff.1 hi
  rcases Nat.lt_or_ge j i with c | c
  ·have:=hpw j i hjl hil c
   rw[ej,ei]at this
   exact this b hb hb2
  ·have:=hpw i j hil hjl (by omega)
   rw[ej,ei]at this
   exact this b hb2 hb
 have aaF:∀j y,j≠i→X[j]?=some y→jA w' y:=fun j y hj hy=>(h.AP y (List.mem_of_getElem? hy)).1.kept k (apart j y hj hy)
 have new:∀b,PF x' b→w.heap.size≤b∨PF x b:=fun b hb=>(f' b hb).symm
 have wbl:=h.blk.lt
 refine⟨X.set i x',⟨k.blk h.blk (fun hf=>(ox _ hf).2.1 rfl),?_,au h.hrow k (fun b hb hf=>(ox b hf).2.2.2.1 hb),fun y hy=>?_,?_,fun y hy b hb=>?_,fun z hz=>(h.hds z hz).kept k (fun b hb hf=>(ox b hf).2.2.2.2 z hz hb),fun z hz b hb=>?_,h.ge,h.gY.from (k.mono (fun b hb=>.inr (ox b hb).1)),h.tab,by rw[hlen];have:=h.xl;omega,by have:=h.hl;omega⟩,hlen⟩
 ·rw[hlen,KO hi e1 e2]
  exact au h.fU k (fun b hb hf=>(ox b hf).2.2.1 hb)
 ·obtain⟨j,hj⟩:=List.getElem?_of_mem hy
  rcases old j y hj with⟨_,rfl⟩ | ⟨e,hj2⟩
  ·exact⟨p',by have:=px.2;omega⟩
  ·exact⟨aaF j y e hj2,by have:=(h.AP y (List.mem_of_getElem? hj2)).2;omega⟩
 ·rw[List.pairwise_iff_getElem]
  intro a b ha hb hab
  have ga:=old a _ (List.getElem?_eq_getElem ha)
  have gb:=old b _ (List.getElem?_eq_getElem hb)
  intro c hc1 hc2
  rcases ga with⟨ea,WX⟩ | ⟨ea,WX⟩ <;> rcases gb with⟨eb,WY⟩ | ⟨eb,WY⟩
  ·omega
  ·rw[WX]at hc1
   rcases new c hc1 with y | y
   ·have:=(h.AP _ (List.mem_of_getElem? WY)).1.lt hc2;omega
   ·exact apart b _ eb WY c hc2 y
  ·rw[WY]at hc2
   rcases new c hc2 with y | y
   ·have:=(h.AP _ (List.mem_of_getElem? WX)).1.lt hc1;omega
   ·exact apart a _ ea WX c hc1 y
  ·obtain⟨al,e5⟩:=List.getElem?_eq_some_iff.1 WX
   obtain⟨bl,e6⟩:=List.getElem?_eq_some_iff.1 WY
   have:=hpw a b al bl hab
   rw[e5,e6]at this
   exact this c hc1 hc2
 ·obtain⟨j,hj⟩:=List.getElem?_of_mem hy
  rcases old j y hj with⟨_,rfl⟩ | ⟨e,hj2⟩
  ·rcases new b hb with c | c
   ·have sz:=h.gY.size
    refine⟨by omega,by omega,fun e=>?_,fun e=>?_,fun z hz hf=>?_⟩
    ·have:=(h.fU.lt _ e).2;omega
    ·have:=(h.hrow.lt _ e).2;omega
    ·have:=(h.hown z hz b hf).2.2.2.2;omega
   ·exact ox b c
  ·exact h.own y (List.mem_of_getElem? hj2) b hb
 ·obtain⟨a1,a2,a3,a4,a5⟩:=h.hown z hz b hb
  exact⟨a1,a2,a3,a4,Nat.lt_of_lt_of_le a5 k.size⟩
theorem PG.born{w0 w w1 w':World}{wb:Nat}{X:List Pr}{Hs:List Ho}{pv hv pv':Value}{N:Nat}{x:Pr}(h:PG w0 w wb X Hs pv hv N)(k1:ag ak w w1)(px:jA w1 x)(xN:x.N≤N+1)(xf:∀b,PF x b→w.heap.size≤b)
 (k3:ag (fun b=>b=wb∨pv.ownBlock=some b) w1 w') (hb:ai w' wb #[pv',hv] 78) (hrow:w'.ownsRow 0 131 2 pv' (X.length+1) (lC X++AO x)) (hnew:∀b,pv'.ownBlock=some b→pv.ownBlock=some b∨w1.heap.size≤b) :
 PG w0 w' wb (X++[x]) Hs pv' hv (N+1):=by
 have wbl:=h.blk.lt
 have hvl:∀b,hv.ownBlock=some b→b<w.heap.size:=fun b e=>(h.hrow.lt b e).2
 have Zo:∀b,pv.ownBlock=some b→b<w.heap.size:=fun b e=>(h.fU.lt b e).2
 have s1:=k1.size
 have s':=k3.size
 have kk:ag (fun b=>b=wb∨pv.ownBlock=some b) w w':=k1.aC.trans k3
 have xl:∀b,PF x b→b<w1.heap.size:=fun b hf=>px.lt hf
 have nfx:∀b,PF x b→¬(b=wb∨pv.ownBlock=some b):=fun b hf e=>by
  have:=xf b hf
  rcases e with e | e
  ·omega
  ·have:=Zo b e;omega
 refine⟨hb,?_,au h.hrow kk (fun b e f=>?_),fun y hy=>?_,?_,fun y hy b hf=>?_,fun z hz=>(h.hds z hz).kept kk (fun b hf f=>?_),fun z hz b hf=>?_,?_,?_,h.tab,by have:=h.xl;simp;omega,by have:=h.hl;omega⟩
 ·have:lC (X++[x])=lC X++AO x:=by simp[lC]
  rw[this];simpa using hrow
 ·rcases f with f | f
  ·subst f;obtain⟨cs,hc⟩:=ay h.hrow e;exact ai.ne hc h.blk (by decide) rfl
  ·obtain⟨cs,hc⟩:=ay h.hrow e
   obtain⟨cs',hc'⟩:=ay h.fU f
   exact ai.ne hc hc' (by decide) rfl
 ·rw[List.mem_append,List.mem_singleton]at hy
  rcases hy with hy | hy
  ·refine⟨(h.AP y hy).1.kept kk (fun b hf f=>?_),by have:=(h.AP y hy).2;omega⟩
   have:=h.own y hy b hf
   rcases f with f | f
   ·exact this.2.1 f
   ·exact this.2.2.1 f
  ·subst hy;exact⟨px.kept k3 nfx,xN⟩
 ·rw[List.pairwise_append]
  refine⟨h.sep,List.pairwise_singleton _ _,fun y hy z hz b hf hg=>?_⟩
  rw[List.mem_singleton]at hz
  subst hz
  have:=(h.AP y hy).1.lt hf
  have:=xf b hg
  omega
 ·have sw:=h.gY.size
  rw[List.mem_append,List.mem_singleton]at hy
  rcases hy with hy | hy
  ·obtain⟨a1,a2,a3,a4,a5⟩:=h.own y hy b hf
   have hlt:=(h.AP y hy).1.lt hf
   refine⟨a1,a2,fun e=>?_,a4,a5⟩
   rcases hnew b e with f | f
   ·exact a3 f
   ·omega
  ·subst hy
   have h1:=xf b hf
   have h2:=xl b hf
   refine⟨by omega,by omega,fun e=>?_,fun e=>?_,fun z hz hz2=>?_⟩
   ·rcases hnew b e with f | f
    ·have:=Zo b f;omega
    ·omega
   ·have:=hvl b e;omega
   ·have:=(h.hown z hz b hz2).2.2.2.2;omega
 ·obtain⟨a1,a2,a3,a4,a5⟩:=h.hown z hz b hf
  rcases f with f | f
  ·exact a2 f
  ·exact a3 f
 ·obtain⟨a1,a2,a3,a4,a5⟩:=h.hown z hz b hf
  refine⟨a1,a2,fun e=>?_,a4,by omega⟩
  rcases hnew b e with f | f
  ·exact a3 f
  ·omega
 ·refine⟨h.ge.1,fun b e=>?_,h.ge.2.2⟩
  rcases hnew b e with f | f
  ·exact h.ge.2.1 b f
  ·have:=h.gY.size;omega
 ·refine h.gY.from (kk.mono (fun b e=>.inr ?_))
  rcases e with e | e
  ·subst e;exact h.ge.1
  ·exact h.ge.2.1 b e
theorem PG.Ol{w0 w w3 w':World}{wb:Nat}{X:List Pr}{Hs:List Ho}{pv hv hv':Value}{N:Nat}{h0:Ho}(h:PG w0 w wb X Hs pv hv N)(ok3:GZ w3 h0)(k13:ag ak w w3)(nf:∀b,Vl h0 b→w.heap.size≤b∧b<w3.heap.size)
 (k3:ag (fun b=>b=wb∨hv.ownBlock=some b) w3 w') (hb:ai w' wb #[pv,hv'] 78) (hrow:w'.ownsRow 0 133 1 hv' (Hs.length+1) (Hs.map lF++[.pointer (some ⟨h0.hb,0,none⟩)])) (hnew:∀b,hv'.ownBlock=some b→hv.ownBlock=some b∨w3.heap.size≤b) :
 PG w0 w' wb X (Hs++[h0]) pv hv' (N+1):=by
 have wbl:=h.blk.lt
 have hvl:∀b,hv.ownBlock=some b→b<w.heap.size:=fun b e=>(h.hrow.lt b e).2
 have Zo:∀b,pv.ownBlock=some b→b<w.heap.size:=fun b e=>(h.fU.lt b e).2
 have s3:=k13.size
 have s':=k3.size
 have kk:ag (fun b=>b=wb∨hv.ownBlock=some b) w w':=k13.aC.trans k3
 have nf3:∀b,Vl h0 b→¬(b=wb∨hv.ownBlock=some b):=fun b hf e=>by
  have:=nf b hf
  rcases e with e | e
  ·omega
  ·have:=hvl b e;omega
 refine⟨hb,au h.fU kk (fun b e f=>?_),?_,fun x hx=>⟨(h.AP x hx).1.kept kk (fun b hf f=>?_),by have:=(h.AP x hx).2;omega⟩,h.sep,fun x hx b hf=>?_,fun z hz=>?_,fun z hz b hf=>?_,?_,?_,h.tab,by have:=h.xl;omega,by have:=h.hl;simp;omega⟩
 ·rcases f with f | f
  ·subst f;obtain⟨cs,hc⟩:=ay h.fU e;exact ai.ne hc h.blk (by decide) rfl
  ·obtain⟨cs,hc⟩:=ay h.fU e
   obtain⟨cs',hc'⟩:=ay h.hrow f
   exact ai.ne hc hc' (by decide) rfl
 ·simpa [lF] using hrow
 ·have:=h.own x hx b hf
  rcases f with f | f
  ·exact this.2.1 f
  ·exact this.2.2.2.1 f
 ·obtain⟨a1,a2,a3,a4,a5⟩:=h.own x hx b hf
  have hlt:=(h.AP x hx).1.lt hf
  refine⟨a1,a2,a3,fun e=>?_,fun z hz hz2=>?_⟩
  ·rcases hnew b e with f | f
   ·exact a4 f
   ·omega
  ·rw[List.mem_append,List.mem_singleton]at hz
   rcases hz with hz | hz
   ·exact a5 z hz hz2
   ·subst hz;have:=nf b hz2;omega
 ·rw[List.mem_append,List.mem_singleton]at hz
  rcases hz with hz | hz
  ·refine (h.hds z hz).kept kk (fun b hf f=>?_)
   obtain⟨a1,a2,a3,a4,a5⟩:=h.hown z hz b hf
   rcases f with f | f
   ·exact a2 f
   ·exact a4 f
  ·subst hz;exact ok3.kept k3 nf3
 ·have sw:=h.gY.size
  rw[List.mem_append,List.mem_singleton]at hz
  rcases hz with hz | hz
  ·obtain⟨a1,a2,a3,a4,a5⟩:=h.hown z hz b hf
   refine⟨a1,a2,a3,fun e=>?_,by omega⟩
   rcases hnew b e with f | f
   ·exact a4 f
   ·omega
  ·subst hz
   have:=nf b hf
   refine⟨by omega,by omega,fun e=>?_,fun e=>?_,by omega⟩
   ·have:=Zo b e;omega
   ·rcases hnew b e with f | f
    ·have:=hvl b f;omega
    ·omega
 ·refine⟨h.ge.1,h.ge.2.1,fun b e=>?_⟩
  rcases hnew b e with f | f
  ·exact h.ge.2.2 b f
  ·have:=h.gY.size;omega
 ·refine h.gY.from (kk.mono (fun b e=>.inr ?_))
  rcases e with e | e
  ·subst e;exact h.ge.1
  ·exact h.ge.2.2 b e
theorem Lp(wb:Nat)(pv hv:Value)(Hs:List Ho)(w:World)(hb:ai w wb #[pv,hv] 78)(hrow:w.ownsRow 0 133 1 hv Hs.length (Hs.map lF))(hds:∀h∈Hs,GZ w h)(hl:Hs.length≤1000000000) :
 Calls Tryz.prog 33 #[.pointer (some ⟨wb,0,none⟩)] w fun e w'=>e=.returned (.bool true)∧ag ak w w':=by
 obtain⟨ha,hc,rfl⟩:=az hrow
 have v1:w.cell? ⟨wb,1,none⟩=some (.slice ha Hs.length hc):=hb.cell 1
 have HR:Hid (∀i,i<Hs.length→∃g b,ha=some ⟨g,0,none⟩∧w.cell? ⟨g,i,none⟩=some (.pointer (some ⟨b,0,none⟩))∧∀W,ag ak w W→Calls Tryz.prog 62 #[.pointer (some ⟨b,0,none⟩)] W fun e w'=>e=.returned (.bool true)∧ag ak W w'):=fun i hi=>by
  obtain⟨h,hh⟩:∃h,Hs[i]?=some h:=⟨_,List.getElem?_eq_getElem hi⟩
  obtain⟨g,e,_,hc2⟩:=wO (i:=i) (v:=lF h) hrow (by simp) (by rw[List.getElem?_map,hh];rfl)
  exact⟨g,h.hb,e,hc2,fun W k=>Iw h W ((hds h (List.mem_of_getElem? hh)).kept k (fun _ _ z=>z))⟩
 obtain⟨n,hn⟩:∃n,Hs.length=n:=⟨_,rfl⟩
 rw[hn]at HR v1 hl
 have HV:=hide v1
 clear hb hrow hds hn v1
 go_enter Tryz.func33,Tryz.ntmps33
 go_wp2
 go_loopg [3] n (fun k iv wr=>∃i:Nat,iv=.int .i64 (i:Int)∧i≤n∧k=n-i∧ag ak w wr)
 case atStart=>exact⟨0,rfl,Nat.zero_le _,rfl,ag.refl _ _⟩
 case round =>
  obtain⟨i,rfl,hi,hgk,hk⟩:=hrel
  have v1:wr.cell? ⟨wb,1,none⟩=some (.slice ha n hc):=hk.cell (ae HV) (fun z=>z)
  by_cases hlt:i<n
  ·obtain⟨g,b,rfl,hcell,hm⟩:=ae HR i hlt
   have hc2:wr.cell? ⟨g,i,none⟩=some (.pointer (some ⟨b,0,none⟩)):=hk.cell hcell (fun z=>z)
   have HM:=hide (hm wr hk)
   have HK:=hide hk
   clear hm hk hcell
   go_wp2_with fail
   refine (ae HM).mono ?_
   rintro e w3 ⟨rfl,k3⟩
   have lV:=hide k3
   clear k3
   go_wp2
   go_roundg (n-(i+1))
   case measure=>omega
   case rel=>exact⟨i+1,by push_cast;rfl,by omega,rfl,(ae HK).trans (ae lV)⟩
  ·obtain rfl:i=n:=by omega
   go_wp2
   go_ret
   exact⟨rfl,hk⟩
theorem QQ:(Tryz.prog.info? 131).map (fun i=>(i.zero,i.size,i.bytes))=some (some (.agg #[.pointer none,.pointer none]),2,16):=by kernel_rfl
theorem Yb(w:World)(a b:Value)(t:TypeId):∀j u,([a,b]:List Value)[j]?=some u→(w.alloc (.cells #[a,b] t)).cell? (Addr.add ⟨w.heap.size,0,none⟩ j)=some u:=by
 intro j u hj
 have hb:=ai.new w #[a,b] t
 match j,hj with
 | 0,hj=>rw[←hj];exact hb.cell 0
 | 1,hj=>rw[←hj,Addr.add_lit];exact hb.cell 1
 | j+2,hj=>simp at hj
theorem aaI:bF (fun _=>0) lY RS.none 0:=by
 have nl:∀x,¬VL lY x:=fun x hx=>by obtain⟨id,h⟩:=hx;simp[lY]at h
 refine⟨⟨fun i hi=>absurd hi (Nat.not_lt_zero i),fun i j hi=>absurd hi (Nat.not_lt_zero i),fun x hx=>absurd hx (nl x),fun x hx=>absurd hx (nl x),fun x hx=>absurd hx (nl x)⟩,rfl,fun i hi=>absurd hi (Nat.not_lt_zero i),rfl,fun k hk=>absurd hk (Nat.not_lt_zero k),fun id b h=>by simp[lY]at h,fun a b ha=>absurd ha (Nat.not_lt_zero a),fun k hk=>absurd hk (Nat.not_lt_zero k),fun a b ha=>absurd ha (Nat.not_lt_zero a),fun a b ha=>absurd ha (Nat.not_lt_zero a),fun k hk=>absurd hk (Nat.not_lt_zero k),fun k hk=>absurd hk (Nat.not_lt_zero k),fun i hi=>absurd hi (Nat.not_lt_zero i),⟨Int.le_refl _,by decide⟩,rfl,rfl,Nat.le_refl _,Nat.le_refl _,Nat.le_refl _,Nat.zero_le _,Nat.zero_le _,fun k hk=>absurd hk (Nat.not_lt_zero k)⟩
def Qb(bv bm bo rb:Nat):Pr:=⟨bv,bm,bo,rb,lY,[],[],⟨#[]⟩,.slice none 0 0,.slice none 0 0,fun _=>0,RS.none,0⟩
theorem pf0{bv bm bo rb b:Nat}(h:PF (Qb bv bm bo rb) b):b=bv∨b=bm∨b=bo∨b=rb:=by
 rcases h with h | h
 ·rcases h with h | h | h | ⟨i,hi,_⟩ | ⟨id,h⟩ | h
  ·exact .inl h
  ·exact .inr (.inl h)
  ·exact .inr (.inr (.inl h))
  ·exact absurd hi (Nat.not_lt_zero i)
  ·simp[Qb,lY]at h
  ·exfalso
   simp[Qb,lY,Lm.F,gm,Value.ownBlock]at h
 ·rcases h with h | h | h
  ·exact .inr (.inr (.inr h))
  ·simp[Qb,Value.ownBlock]at h
  ·simp[Qb,Value.ownBlock]at h
theorem aaJ:vC lY:=⟨fun i hi=>absurd hi (Nat.not_lt_zero i),⟨fun t ht=>by simp[lY,held] at ht,fun id b h=>by simp[lY] at h,fun id b h=>by simp[lY] at h⟩,fun x hx=>by simp[lY] at hx,by show qF [];exact qF.nil⟩
theorem Yo{w w1:World}{bv bm bo:Nat}(R:Rep w bv bm bo lY)(k:ag ak w w1)(hb:ai w1 w.heap.size #[.slice none 0 0,.slice none 0 0,.string ⟨#[]⟩] 129):jA w1 (Qb bv bm bo w.heap.size):=by
 refine⟨R.aj k,⟨Nat.zero_le _,hb,World.ownsRow_nil _ _ _ _,World.ownsRow_nil _ _ _ _⟩,aaI,Hist.nil,fun b hf hr=>?_,Nat.le_refl _,rfl,Nat.le_refl _,aaJ⟩
 have:=R.BU hf
 rcases hr with h | h | h
 ·simp only[Qb]at h;omega
 ·simp[Qb,Value.ownBlock]at h
 ·simp[Qb,Value.ownBlock]at h
def wY(w0:World)(wb N:Nat)(w':World):Prop:=∃X Hs pv hv,PG w0 w' wb X Hs pv hv N∧0<X.length
theorem Aq{w0 w:World}{wb:Nat}{X:List Pr}{Hs:List Ho}{pv hv:Value}{N:Nat}(h:PG w0 w wb X Hs pv hv N)(hN:N≤2000000):Calls Tryz.prog 31 #[.pointer (some ⟨wb,0,none⟩)] w fun e w'=>e=.returned (.bool true)∧wY w0 wb (N+1) w':=by
 have hxl:=h.xl
 have H:=hide h
 have HN:=hide (new_any w)
 clear h
 go_enter Tryz.func31,Tryz.ntmps31
 go_wp2_with fail
 refine (ae HN).mono ?_
 rintro e w1 ⟨bv,bm,bo,rfl,R,k1,g1,g2,g3⟩
 obtain⟨pa,pc,hpv⟩:=az (ae H).fU
 subst hpv
 have h1:=(ae H).aj k1
 have b1:=h1.blk
 have v0:w1.cell? ⟨wb,0,none⟩=some (.slice pa X.length pc):=b1.cell 0
 have UO:=b1.lt
 obtain⟨w2,hw2⟩:∃w2,w2=w1.alloc (.cells #[.slice none 0 0,.slice none 0 0,.string ⟨#[]⟩] 129):=⟨_,rfl⟩
 have k2:ag ak w1 w2:=by rw[hw2];exact (ag.refl ak w1).alloc _
 have b2:ai w2 w1.heap.size #[.slice none 0 0,.slice none 0 0,.string ⟨#[]⟩] 129:=by rw[hw2];exact ai.new _ _ _
 have px:=Yo R k2 b2
 have HPX:=hide px
 have kV:=hide k1
 have jC:=hide k2
 have HB1:=hide b1
 have h2:=h1.aj k2
 have HP2:=hide h2.fU
 have YO:=hide h2
 obtain⟨i0,hi0,hz0,hz1,hz2⟩:=info_parts QQ
 have hm1:X.length+1≤maxLen:=by unfold maxLen;omega
 have HW2:=hide hw2
 have v02:w2.cell? ⟨wb,0,none⟩=some (.slice pa X.length pc):=k2.cell v0 (fun z=>z)
 have s2:w2.heap.size=w1.heap.size+1:=by rw[hw2];simp
 have HR:=hide R
 have HS2:=hide s2
 clear k1 k2 b1 b2 px h1 h2 R HN s2 hw2
 go_wp2_with (at_builtin;rw[←ae HW2];refine wpList_append_lies _ rfl _ _ 75 rfl 0 131 i0 (.agg #[.pointer none,.pointer none]) 2 16 Tryz.underlying75 hi0 hz0 hz1 hz2 rfl (by decide) (.slice pa X.length pc) X.length (lC X) rfl (au (ae HP2) ((ag.refl ak w2).alloc _) (fun _ _ z=>z)) ⟨w1.heap.size+1,0,none⟩ 1 1 [.pointer (some ⟨bv,0,none⟩),.pointer (some ⟨w1.heap.size,0,none⟩)] rfl rfl (by have:=Yb w2 (.pointer (some ⟨bv,0,none⟩)) (.pointer (some ⟨w1.heap.size,0,none⟩)) 131;rw[ae HS2]at this;exact this) (by simp[Value.oneCell']) (by omega) hm1 (by omega) (by omega) (w2.heap.size+1) (by simp) ?_;intro ga gc w5 hown' hgrow hat hlt2;have b5:ai w5 wb _ 78:=(((ag.refl (fun b=>(Value.slice pa X.length pc).ownBlock=some b) w2).alloc _).grown hgrow (fun k e=>.inl e)).blk (ae YO).blk (fun e=>by obtain⟨cs,hc⟩:=ay (ae HP2) e;exact ai.ne hc (ae YO).blk (by decide) rfl);have TP:=b5.cell 0;have f50:=b5.frozen 0;have l50:=b5.lt;simp at TP;have MZ:=hide b5;have Nj:=hide hown';have Tt:=hide hgrow;have zf:=hide hat;clear b5 hown' hgrow hat v0 v02)
 go_ret
 have k5:ag (fun b=>(Value.slice pa X.length pc).ownBlock=some b) w2 w5:=((ag.refl (fun b=>(Value.slice pa X.length pc).ownBlock=some b) w2).alloc _).grown (ae Tt) (fun k e=>.inl e)
 have k6:ag (fun b=>b=wb) w5 (w5.setCell ⟨wb,0,none⟩ (.slice (some ⟨ga,0,none⟩) (X.length+1) gc)):=(ag.refl (fun b=>b=wb) w5).setCell (p:=⟨wb,0,none⟩) (.inl rfl) _
 refine⟨rfl,X++[Qb bv bm bo w1.heap.size],Hs,.slice (some ⟨ga,0,none⟩) (X.length+1) gc,hv,?_,by simp⟩
 refine (ae H).born ((ae kV).trans (ae jC)) (ae HPX) (Nat.zero_le _) (fun b hf=>?_) ((k5.mono (fun b h=>.inr h)).trans (k6.mono (fun b h=>.inl h))) ((ae MZ).set 0 _) ?_ (fun b hb=>?_)
 ·have:=(ae kV).size
  rcases pf0 hf with e | e | e | e <;> omega
 ·exact aJ (t:=0) (ae Nj) k6 (fun b hb2=>by subst hb2;exact⟨_,_,ae MZ,by decide⟩)
 ·simp only[Value.ownBlock,Option.some.injEq]at hb
  rcases ae zf with e | e
  ·left;rw[e,hb]
  ·right;omega
def RG(h:Ho):Hd:=⟨h.hb,h.lv,h.ls,h.Vy⟩
theorem kY(Hs:List Ho):(Hs.map RG).map holdV=Hs.map lF:=by
 rw[List.map_map];rfl
theorem XX(wb n0:Nat)(pv hv v:Value)(Hs:List Ho)(ls:List fJ)(w:World)(hwb:ai w wb #[pv,hv] 78)(hrow:w.ownsRow 0 133 1 hv Hs.length (Hs.map lF))(hl:Hs.length≤100000000)(hlv:w.ownsRow n0 93 3 v ls.length (flat ls))(hls:ls.length≤1000)(hn0:n0≤w.heap.size)(hwn:wb<n0)(hhn:∀b,hv.ownBlock=some b→b<n0) :
 Calls Tryz.prog 104 #[.pointer (some ⟨wb,0,none⟩),v] w fun e w'=>e=.returned (.tuple #[])∧∃cO c n lv hv' w3,KL n0 w.heap.size (-1000-(Hs.length:Int)) v w c n cO lv w3∧n≤2000∧cO.length≤100 ∧
  ag (fun b=>b=wb∨hv.ownBlock=some b) w3 w'∧ai w' wb #[pv,hv'] 78∧w'.ownsRow 0 133 1 hv' (Hs.length+1) (Hs.map lF++[.pointer (some ⟨w.heap.size,0,none⟩)])∧(∀b,hv'.ownBlock=some b→hv.ownBlock=some b∨w3.heap.size≤b):=by
 have:=EX wb n0 pv hv v (Hs.map RG) ls w hwb (by rw[List.length_map,kY];exact hrow) (by rw[List.length_map];exact hl) hlv hls hn0 hwn hhn
 rw[List.length_map,kY]at this
 exact this
theorem XY(wb n0:Nat)(pv hv v:Value)(Hs:List Ho)(ls:List Tr)(w:World)(hwb:ai w wb #[pv,hv] 78)(hrow:w.ownsRow 0 133 1 hv Hs.length (Hs.map lF))(hl:Hs.length≤100000000)(hlv:w.ownsRow n0 56 7 v ls.length (mf ls))(hls:ls.length≤1000000000)(hn0:n0≤w.heap.size)(hwn:wb<n0)(hhn:∀b,hv.ownBlock=some b→b<n0) :
 Calls Tryz.prog 107 #[.pointer (some ⟨wb,0,none⟩),v] w fun e w'=>e=.returned (.tuple #[])∧∃cO c n lv hv' w3,DW n0 w.heap.size (-1000-(Hs.length:Int)) v w c n cO lv w3∧n≤1000000100∧cO.length≤100 ∧
  ag (fun b=>b=wb∨hv.ownBlock=some b) w3 w'∧ai w' wb #[pv,hv'] 78∧w'.ownsRow 0 133 1 hv' (Hs.length+1) (Hs.map lF++[.pointer (some ⟨w.heap.size,0,none⟩)])∧(∀b,hv'.ownBlock=some b→hv.ownBlock=some b∨w3.heap.size≤b):=by
 have:=EY wb n0 pv hv v (Hs.map RG) ls w hwb (by rw[List.length_map,kY];exact hrow) (by rw[List.length_map];exact hl) hlv hls hn0 hwn hhn
 rw[List.length_map,kY]at this
 exact this
theorem keepR(wb n0:Nat)(pv hv v:Value)(Hs:List Ho)(ls:List Rc)(w:World)(hwb:ai w wb #[pv,hv] 78)(hrow:w.ownsRow 0 133 1 hv Hs.length (Hs.map lF))(hl:Hs.length≤100000000)(hlv:w.ownsRow n0 62 9 v ls.length (dP ls))(hls:ls.length≤1000000000)(hn0:n0≤w.heap.size)(hwn:wb<n0)(hhn:∀b,hv.ownBlock=some b→b<n0) :
 Calls Tryz.prog 110 #[.pointer (some ⟨wb,0,none⟩),v] w fun e w'=>e=.returned (.tuple #[])∧∃cO c n lv hv' w3,DV n0 w.heap.size (-1000-(Hs.length:Int)) v w c n cO lv w3∧n≤1000000100∧cO.length≤100 ∧
  ag (fun b=>b=wb∨hv.ownBlock=some b) w3 w'∧ai w' wb #[pv,hv'] 78∧w'.ownsRow 0 133 1 hv' (Hs.length+1) (Hs.map lF++[.pointer (some ⟨w.heap.size,0,none⟩)])∧(∀b,hv'.ownBlock=some b→hv.ownBlock=some b∨w3.heap.size≤b):=by
 have:=CE wb n0 pv hv v (Hs.map RG) ls w hwb (by rw[List.length_map,kY];exact hrow) (by rw[List.length_map];exact hl) hlv hls hn0 hwn hhn
 rw[List.length_map,kY]at this
 exact this
theorem PG.Xr{w0 w w1 w3 w':World}{wb n:Nat}{X:List Pr}{Hs:List Ho}{pv hv hv' v c lv:Value}{cO:List Value}{mk:Int}{N:Nat}(h:PG w0 w wb X Hs pv hv N)(k1:ag ak w w1)(kl:KL w.heap.size w1.heap.size mk v w1 c n cO lv w3)(hn:n≤2000)(hsl:cO.length≤100)
 (k3:ag (fun b=>b=wb∨hv.ownBlock=some b) w3 w') (hb:ai w' wb #[pv,hv'] 78) (hrow:w'.ownsRow 0 133 1 hv' (Hs.length+1) (Hs.map lF++[.pointer (some ⟨w1.heap.size,0,none⟩)])) (hnew:∀b,hv'.ownBlock=some b→hv.ownBlock=some b∨w3.heap.size≤b) :
 PG w0 w' wb X (Hs++[⟨w1.heap.size,lv,.slice none 0 0,.slice none 0 0,cO,[],[],mk⟩]) pv hv' (N+1):=by
 have s1:=k1.size
 refine h.Ol (h0:=⟨w1.heap.size,lv,.slice none 0 0,.slice none 0 0,cO,[],[],mk⟩) ⟨kl.blk,own_base kl.bI (Nat.zero_le _),World.ownsRow_nil _ _ _ _,World.ownsRow_nil _ _ _ _,fun y hy=>by obtain⟨a,k,cc,e,e1,e2⟩:=kl.each y hy;exact⟨a,k,cc,e,by omega,e2⟩,fun y hy=>absurd hy (by simp),fun y hy=>absurd hy (by simp),by show cO.length≤1000;omega,by show 0≤1000;omega,by show 0≤1000;omega⟩ (k1.from (kl.gY.mono (fun b e=>.inr (kl.Bo b e)))) (fun b hf=>?_) k3 hb hrow hnew
 rcases hf with e | e | ⟨y,hy,e⟩
 ·simp only at e;subst e;exact⟨s1,kl.blk.lt⟩
 ·simp only[Value.ownBlock,reduceCtorEq,Option.map_none,or_false,false_or]at e
  exact⟨Nat.le_trans s1 (kl.pV b e),(kl.bI.lt b e).2⟩
 ·simp only[List.nil_append,List.append_nil]at hy
  exact kl.ownB y hy b e
theorem PG.eU{w0 w w1 w3 w':World}{wb n:Nat}{X:List Pr}{Hs:List Ho}{pv hv hv' v c lv:Value}{cO:List Value}{mk:Int}{N:Nat}(h:PG w0 w wb X Hs pv hv N)(k1:ag ak w w1)(kl:DW w.heap.size w1.heap.size mk v w1 c n cO lv w3)(hn:n≤1000000100)(hsl:cO.length≤100)
 (k3:ag (fun b=>b=wb∨hv.ownBlock=some b) w3 w') (hb:ai w' wb #[pv,hv'] 78) (hrow:w'.ownsRow 0 133 1 hv' (Hs.length+1) (Hs.map lF++[.pointer (some ⟨w1.heap.size,0,none⟩)])) (hnew:∀b,hv'.ownBlock=some b→hv.ownBlock=some b∨w3.heap.size≤b) :
 PG w0 w' wb X (Hs++[⟨w1.heap.size,.slice none 0 0,lv,.slice none 0 0,[],cO,[],mk⟩]) pv hv' (N+1):=by
 have s1:=k1.size
 refine h.Ol (h0:=⟨w1.heap.size,.slice none 0 0,lv,.slice none 0 0,[],cO,[],mk⟩) ⟨kl.blk,World.ownsRow_nil _ _ _ _,own_base kl.bI (Nat.zero_le _),World.ownsRow_nil _ _ _ _,fun y hy=>absurd hy (by simp),fun y hy=>by obtain⟨a,k,cc,e,e1,e2⟩:=kl.each y hy;exact⟨a,k,cc,e,by omega,e2⟩,fun y hy=>absurd hy (by simp),by show 0≤1000;omega,by show cO.length≤1000;omega,by show 0≤1000;omega⟩ (k1.from (kl.gY.mono (fun b e=>.inr (kl.Bo b e)))) (fun b hf=>?_) k3 hb hrow hnew
 rcases hf with e | e | ⟨y,hy,e⟩
 ·simp only at e;subst e;exact⟨s1,kl.blk.lt⟩
 ·simp only[Value.ownBlock,reduceCtorEq,Option.map_none,or_false,false_or]at e
  exact⟨Nat.le_trans s1 (kl.pV b e),(kl.bI.lt b e).2⟩
 ·simp only[List.nil_append,List.append_nil]at hy
  exact kl.ownB y hy b e
theorem PG.Xt{w0 w w1 w3 w':World}{wb n:Nat}{X:List Pr}{Hs:List Ho}{pv hv hv' v c lv:Value}{cO:List Value}{mk:Int}{N:Nat}(h:PG w0 w wb X Hs pv hv N)(k1:ag ak w w1)(kl:DV w.heap.size w1.heap.size mk v w1 c n cO lv w3)(hn:n≤1000000100)(hsl:cO.length≤100)
 (k3:ag (fun b=>b=wb∨hv.ownBlock=some b) w3 w') (hb:ai w' wb #[pv,hv'] 78) (hrow:w'.ownsRow 0 133 1 hv' (Hs.length+1) (Hs.map lF++[.pointer (some ⟨w1.heap.size,0,none⟩)])) (hnew:∀b,hv'.ownBlock=some b→hv.ownBlock=some b∨w3.heap.size≤b) :
 PG w0 w' wb X (Hs++[⟨w1.heap.size,.slice none 0 0,.slice none 0 0,lv,[],[],cO,mk⟩]) pv hv' (N+1):=by
 have s1:=k1.size
 refine h.Ol (h0:=⟨w1.heap.size,.slice none 0 0,.slice none 0 0,lv,[],[],cO,mk⟩) ⟨kl.blk,World.ownsRow_nil _ _ _ _,World.ownsRow_nil _ _ _ _,own_base kl.bI (Nat.zero_le _),fun y hy=>absurd hy (by simp),fun y hy=>absurd hy (by simp),fun y hy=>by obtain⟨a,k,cc,e,e1,e2⟩:=kl.each y hy;exact⟨a,k,cc,e,by omega,e2⟩,by show 0≤1000;omega,by show 0≤1000;omega,by show cO.length≤1000;omega⟩ (k1.from (kl.gY.mono (fun b e=>.inr (kl.Bo b e)))) (fun b hf=>?_) k3 hb hrow hnew
 rcases hf with e | e | ⟨y,hy,e⟩
 ·simp only at e;subst e;exact⟨s1,kl.blk.lt⟩
 ·simp only[Value.ownBlock,reduceCtorEq,Option.map_none,or_false,false_or]at e
  exact⟨Nat.le_trans s1 (kl.pV b e),(kl.bI.lt b e).2⟩
 ·simp only[List.nil_append,List.append_nil]at hy
  exact kl.ownB y hy b e
end Go.Proofs.YtigaphnafnpfnaaGreatDoor
