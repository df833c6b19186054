import Derived.Test.YtigaphnafnpfnaaGreatDoorQNP6
set_option linter.unusedVariables false
set_option linter.unusedSimpArgs false
set_option maxHeartbeats 8000000
set_option maxRecDepth 100000
namespace Go.Proofs.YtigaphnafnpfnaaGreatDoor
open Go.RowKit Go.Maps
structure Iw(al:List dL)(F:Nat->RS × List Rc):Prop where
 zero:F 0=(RS.none,[])
 step:∀(k:Nat) (a:dL),al[k]?=some a->AR (F k).1 a (F (k+1)).1/\(F (k+1)).2=kZ (F k).2 (F (k+1)).1.told
structure Rn(al:List dL)(F:Nat->RS × List Rc)(x:Kx)(k:Nat):Prop where
 S:x.S=(F k).1
 tp:x.V.lg.tp=(F k).2
 js:x.V.lg.js=(al.take k).map dL.line
 h:x.H.length=k
 n:x.N<=k
 hs:x.H.map Prod.snd=(List.range k).map (fun i=>(F (i+1)).1)
theorem Rn.next{al:List dL}{F:Nat->RS × List Rc}{x x':Kx}{k:Nat}{a:dL}(r:Iw al F)(h:Rn al F x k)(ha:al[k]?=some a)(st:En x a x')(hS:x'.S=(F (k+1)).1)(hh:x'.H.length=x.H.length+1)(hn:x'.N<=x.N+1):Rn al F x' (k+1):=by
 refine⟨hS,?_,?_,by rw[hh,h.h],by have:=h.n;omega,?_⟩
 ·rw[(r.step k a ha).2,st.2.1,hS,h.tp]
 ·rw[st.2.2.1,h.js,List.take_add_one,ha,List.map_append];rfl
 ·obtain⟨n,e⟩:=st.2.2.2;rw[e,List.map_append,h.hs,List.range_succ,List.map_append,List.map_singleton,List.map_singleton,hS]
def Yr(x:Kx):Prop:=∃al F,Iw al F/\Rn al F x al.length/\∀a∈al,jE a
theorem Yr.start{x:Kx}(hH:x.H=[])(hN:x.N=0)(htp:x.V.lg.tp=[])(hjs:x.V.lg.js=[]):Yr x:=by
 refine⟨[],fun _=>(RS.none,[]),⟨rfl,fun k a h=>by simp at h⟩,⟨?_,htp,by rw[hjs];rfl,by rw[hH];rfl,by rw[hN];exact Nat.zero_le _,by rw[hH];rfl⟩,fun a h=>by simp at h⟩;unfold Kx.S;rw[hH];rfl
theorem Yr.step{x x':Kx}(h:Yr x)(hH:x'.H.length=x.H.length+1)(hN:x'.N<=x.N+1)(g:Ig x x'):Yr x':=by
 obtain⟨al,F,r,st,fa⟩:=h;obtain⟨a,sd,P9⟩:=g.2.1 (by omega);obtain⟨F',hF'⟩:∃F':Nat->RS × List Rc,F'=fun k=>if k<=al.length then F k else (x'.S,x'.V.lg.tp):=⟨_,rfl⟩
 have lo:∀k,k<=al.length->F' k=F k:=fun k hk=>by rw[hF'];simp only[if_pos hk]
 have hi:F' (al.length+1)=(x'.S,x'.V.lg.tp):=by rw[hF'];simp only[if_neg (show ¬al.length+1<=al.length by omega)]
 have r':Iw (al++[a]) F':=by
  refine⟨by rw[lo 0 (Nat.zero_le _)];exact r.zero,fun k b hb=>?_⟩;by_cases hk:k<al.length
  ·rw[List.getElem?_append_left hk]at hb;rw[lo k (by omega),lo (k+1) (by omega)];exact r.step k b hb
  ·rw[List.getElem?_append_right (by omega)]at hb;have hk2:k=al.length:=by
    cases e:k-al.length with
    | zero=>omega
    | succ m=>rw[e]at hb;simp at hb
   subst hk2;rw[Nat.sub_self]at hb;simp only[List.getElem?_cons_zero,Option.some.injEq]at hb;subst hb;rw[lo _ (Nat.le_refl _),hi];refine⟨by rw[<-st.S];exact sd.1,?_⟩;show x'.V.lg.tp=kZ (F al.length).2 x'.S.told;rw[<-st.tp];exact sd.2.1
 refine⟨al++[a],F',r',⟨?_,?_,?_,?_,?_,?_⟩,fun b hb=>?_⟩
 ·rw[List.length_append];show x'.S=(F' (al.length+1)).1;rw[hi]
 ·rw[List.length_append];show x'.V.lg.tp=(F' (al.length+1)).2;rw[hi]
 ·rw[List.take_length,sd.2.2.1,st.js,List.take_length,List.map_append];rfl
 ·rw[hH,st.h,List.length_append];rfl
 ·rw[List.length_append];have:=st.n;show x'.N<=al.length+1;omega
 ·obtain⟨n,e⟩:=sd.2.2.2;rw[e,List.map_append,st.hs,List.length_append,List.length_singleton,List.range_succ,List.map_append,List.map_singleton,List.map_singleton,hi];congr 1;exact List.map_congr_left (fun i hi2=>by rw[lo _ (by have:=List.mem_range.1 hi2;omega)])
 ·rcases List.mem_append.1 hb with hb | hb
  ·exact fa b hb
  ·rw[List.mem_singleton.1 hb];exact P9
def WQ(S:RS)(n:Nat):Prop:=Kn S n\/(∃m,n=m+1/\Kn S m)\/(n=0/\jI S.sy sA=true/\jI S.sy sG=false)
def Prv(x:Kx)(n:Nat):Prop:=∃H nt S,x.H=H++[(nt,S)]/\WQ (kX H) n
theorem Kn.uniq{S:RS}{n m:Nat}(h:Kn S n)(h':Kn S m):n=m:=by
 have a:=(h.rJ n).symm.trans (h'.rJ n);have b:=(h.rJ m).symm.trans (h'.rJ m);omega
theorem Rn.before{al:List dL}{F:Nat->RS × List Rc}{x:Kx}{k:Nat}(r:Iw al F)(h:Rn al F x (k+1)):∃H n,x.H=H++[(n,(F (k+1)).1)]/\kX H=(F k).1:=by
 have hs:=h.hs;rw[List.range_succ,List.map_append,List.map_singleton]at hs;rcases xN x.H with e | ⟨H,y,e⟩
 ·rw[e]at hs;simp at hs
 ·rw[e,List.map_append,List.map_singleton]at hs;obtain⟨e1,e2⟩:=List.append_inj' hs rfl;obtain⟨n,S⟩:=y;simp only[List.cons.injEq,and_true]at e2;refine⟨H,n,by rw[e,<-e2],?_⟩;unfold kX;rw[<-List.getLast?_map,e1];cases k with
  | zero=>rw[r.zero];rfl
  | succ j=>rw[List.range_succ,List.map_append,List.map_singleton];simp
attribute [local go_sem ↓] Go.wp_at_zero Go.wp_at_succ
theorem BH{x:Kx}{w:World}{s:ByteArray}{bv:Nat}{E:Int}(h:jq w x)(hb:x.bv=bv)(hN:x.N<2000000)(hs:s.size<=1000)(hE:mi x.S.sy s=E)(h0:E≠0) :
 CT 27 #[PP bv,.string s] w fun e w'=>e=.returned (II E)/\aj aJ w w':=by
 subst hb;refine (yN x.bv x.bm x.bo x.N (x.V.gG (dL.list s).line) x.p x.S s w (h.wO _) (h.wP _) (by omega) (h.NY _) (by omega) (au rfl)).mono ?_;rintro e w' ⟨rfl,hO⟩;rw[hE]at hO ⊢;rcases hO with⟨_,k,_⟩ | ⟨e0,_⟩
 ·exact⟨rfl,k⟩
 ·exact absurd e0 h0
theorem EF{x:Kx}{w:World}{s:ByteArray}{bv:Nat}(h:jq w x)(hb:x.bv=bv)(hN:x.N<2000000)(hs:s.size<=1000)(hfa:jE (.list s))(hE:mi x.S.sy s=0) :
 CT 27 #[PP bv,.string s] w fun e w'=>e=.returned (II 0)/\KN x w w' (fun x'=>(∃n S',x'.H=x.H++[(n,S')])/\(∀id,(iU x'.S.l id).isSome=true↔(iU x.S.l id).isSome=true)/\x'.S.sy=x.S.sy++[s]):=by
 subst hb;refine (yN x.bv x.bm x.bo x.N (x.V.gG (dL.list s).line) x.p x.S s w (h.wO _) (h.wP _) (by omega) (h.NY _) (by omega) (au rfl)).mono ?_;rintro e w' ⟨rfl,hO⟩;rw[hE]at hO ⊢;rcases hO with⟨e0,_⟩ | ⟨_,hA⟩
 ·exact absurd rfl e0
 ·obtain⟨x',ok',k,hf,q1,q2,q3,q4,q5,q6⟩:=MP h (fun _ _=>hfa) hA;exact⟨rfl,x',ok',k,hf,q1,q2,q3,q4,fun id=>⟨fun z=>((q5 id).1 z).elim aU (fun y=>y.elim),fun z=>(q5 id).2 (.inl z)⟩,q6⟩
theorem nm1:nX ⟨#[97]⟩=false:=by kernel_rfl
theorem nm2:nX sA=true:=by kernel_rfl
theorem nm3:nX sG=true:=by kernel_rfl
theorem lE1:mi [] ⟨#[97]⟩=3:=by unfold mi;rw[nm1];rfl
theorem lE2:mi [] sA=0:=by unfold mi;rw[nm2];rfl
theorem lE3:mi [sA] sG=0:=by
 have h:jI [sA] sG=false:=by
  unfold jI;simp only[List.any_cons,List.any_nil,Bool.or_false];exact decide_eq_false VB
 unfold mi;rw[nm3,h];rfl
theorem lE4:mi [sA,sG] sA=2:=by
 have h:jI [sA,sG] sA=true:=qY (i:=0) rfl;unfold mi;rw[nm2,h];rfl
theorem KN.old{x:Kx}{w w1 w2:World}{Q:Kx->Prop}(hn:KN x w1 w2 Q)(k:aj aJ w w1)(hf:∀b,KF x b->w.heap.size<=b):∃x',jq w2 x'/\aj aJ w w2/\(∀b,KF x' b->w.heap.size<=b)/\x'.bv=x.bv/\x'.N<=x.N+1/\Ig x x'/\Q x':=by
 obtain⟨x',ok',kc,f,h1,h2,h3,q⟩:=hn;refine⟨x',ok',k.from (kc.mono (fun b hb=>.inr (hf b hb))),fun b hb=>?_,h1,h2,h3,q⟩;rcases f b hb with hx | hx
 ·exact hf b hx
 ·have:=k.size;omega
theorem Zv(w:World):CT 14 #[] w fun e w'=>∃P x,e=.returned (PP P)/\aA w' P #[PP x.bv,II 0,II 2] 37/\jq w' x/\Kn x.S 0/\x.H.length=2/\x.N<=2/\aj aJ w w'/\(∀b,KF x b->w.heap.size<=b)/\w.heap.size<=P/\Yr x/\Prv x 0:=by
 go_enter Tryz.func14,Tryz.ntmps14;go_wp2_with fail;refine (MQ w).mono ?_;rintro e w1 ⟨x0,rfl,ok0,k0,f0,h0,n0,tp0,js0⟩;have HR0:=au (Yr.start h0 n0 tp0 js0);clear tp0 js0;obtain⟨bv,hbv⟩:∃bv,x0.bv=bv:=⟨_,rfl⟩;rw[hbv];have s0:x0.S=RS.none:=by unfold Kx.S;rw[h0];rfl
 have XZ:x0.S.sy=[]:=by rw[s0];rfl
 have H0:=au (And.intro ok0 (And.intro k0 (And.intro f0 (And.intro h0 (And.intro n0 (And.intro hbv (And.intro s0 XZ)))))));clear ok0 k0 f0 h0 n0 hbv s0 XZ;go_wp2_with fail;obtain⟨ok0,k0,f0,h0,n0,hbv,s0,XZ⟩:=ae H0;refine (BH (E:=3) ok0 hbv (by omega) (by decide) (by rw[XZ];exact lE1) (by decide)).mono ?_;rintro e w2 ⟨rfl,k2⟩;have zn:=au k2;clear ok0 k0 f0 h0 n0 hbv s0 XZ k2;go_wp2_with fail;obtain⟨ok0,k0,f0,h0,n0,hbv,s0,XZ⟩:=ae H0;refine (EF (ok0.aB (ae zn)) hbv (by omega) (by decide) (Ho 0) (by rw[XZ];exact lE2)).mono ?_;rintro e w3 ⟨rfl,hn3⟩;obtain⟨x1,ok1,k1,f1,b1,n1,gr1,⟨nt1,S1,e1⟩,i1,y1⟩:=hn3.old (k0.trans (ae zn)) f0;have HR1:=au ((ae HR0).step (by rw[e1,List.length_append];rfl) n1 gr1);clear gr1 HR0;rw[hbv]at b1;rw[n0]at n1;rw[h0]at e1;rw[XZ]at y1;rw[s0]at i1;have H1:=au (And.intro ok1 (And.intro k1 (And.intro f1 (And.intro b1 (And.intro n1 (And.intro e1 (And.intro i1 y1)))))));clear ok0 k0 f0 h0 n0 hbv s0 XZ H0 hn3 ok1 k1 f1 b1 n1 e1 i1 y1 zn;go_wp2_with fail;obtain⟨ok1,k1,f1,b1,n1,e1,i1,y1⟩:=ae H1;refine (EF ok1 b1 (by omega) (by decide) (Ho 1) (by rw[y1];exact lE3)).mono ?_;rintro e w4 ⟨rfl,hn4⟩;obtain⟨x2,ok2,k2,f2,b2,n2,gr2,⟨nt2,S2,e2⟩,i2,y2⟩:=hn4.old k1 f1;have HR2:=au ((ae HR1).step (by rw[e2,List.length_append];rfl) n2 gr2);clear gr2 HR1;have HPv:Hid (Prv x2 0):=⟨x1.H,nt2,S2,e2,.inr (.inr ⟨rfl,by show jI x1.S.sy _=_;rw[y1];exact qY (i:=0) rfl,by show jI x1.S.sy _=_;rw[y1];unfold jI;simp only[List.nil_append,List.any_cons,List.any_nil,Bool.or_false];exact decide_eq_false VB⟩)⟩;rw[b1]at b2;rw[e1]at e2;rw[y1]at y2;have i3:∀id,(iU x2.S.l id).isSome=false:=fun id=>by
  cases hx:(iU x2.S.l id).isSome
  ·rfl
  ·exact absurd ((i1 id).1 ((i2 id).1 hx)) (by intro z;cases z)
 have n3:x2.N<=2:=by omega
 have H2:=au (And.intro ok2 (And.intro k2 (And.intro f2 (And.intro b2 (And.intro n3 (And.intro e2 (And.intro i3 y2)))))));clear ok1 k1 f1 b1 n1 e1 i1 y1 H1 hn4 ok2 k2 f2 b2 n2 e2 i2 y2 i3 n3;go_wp2_with fail;obtain⟨ok2,k2,f2,b2,n3,e2,i3,y2⟩:=ae H2;refine (BH (E:=2) ok2 b2 (by omega) (by decide) (by rw[y2];exact lE4) (by decide)).mono ?_;rintro e w5 ⟨rfl,k5⟩;have Lh:=au k5;clear ok2 k2 f2 b2 n3 e2 i3 y2 k5;go_wp2_with fail;obtain⟨ok2,k2,f2,b2,n3,e2,i3,y2⟩:=ae H2;have hst:=vP (ok2.aB (ae Lh)) (id:=1) (by decide) (by have:=i3 1;cases hx:iU x2.S.l 1 with | none=>rfl | some z=>rw[hx]at this;cases this);rw[b2]at hst;refine hst.mono ?_;rintro e w6 ⟨rfl,k6⟩;simp only[kE];have kk:=(k2.trans (ae Lh)).trans k6;have hK:=((ok2.aB (ae Lh)).aB k6);have kn:Kn x2.S 0:=⟨fun id=>⟨fun z=>by rw[i3 id]at z;exact absurd z (by decide),fun z=>by omega⟩,by rw[y2];exact qY (i:=0) rfl,by rw[y2];exact qY (i:=1) rfl⟩;have hl:x2.H.length=2:=by rw[e2];rfl
 have HF:=au (And.intro kk (And.intro hK (And.intro kn (And.intro hl (And.intro n3 (And.intro f2 b2))))));clear ok2 k2 f2 b2 n3 e2 i3 y2 hst k6 kk hK kn hl H2 Lh;go_wp2;go_ret;obtain⟨kk,hK,kn,hl,n3,f2,b2⟩:=ae HF;refine⟨_,x2,rfl,?_,hK.aB (((aj.refl aJ w6).alloc _).alloc _),kn,hl,n3,(kk.alloc _).alloc _,f2,?_⟩
 ·rw[b2];exact aA.sQ w6 _ _ _
 ·have:=kk.size;exact⟨by omega,ae HR2,ae HPv⟩
open Go.RowKit
def nW(n:Int):List UInt8:=gu n.toNat
def dL.eU:dL->List (List UInt8)
 | .list s=>[[108,105,115,116],s.data.toList]
 | .enter o=>[[101,110,116,101,114],nW o.id,nW o.aG,o.sym.data.toList,nW o.side,nW o.kind,nW o.af,nW o.aK]
 | .gy id=>[[99,97,110,99,101,108],nW id]
 | .replace id af aK=>[[114,101,112,108,97,99,101],nW id,nW af,nW aK]
 | .nI n again=>[[98,117,115,116],nW n,nW (AQ again)]
 | .dM n b=>[[99,111,114,114,101,99,116],nW n,nW b]
 | .close=>[[99,108,111,115,101]]
theorem XL{n:Int}(h:o9 n):GH n=⟨#[32]⟩++fQ (nW n):=by
 unfold GH nW;have e:Lib.itoa n=gu n.toNat:=by rw[<-Jj,show ((n.toNat:Nat):Int)=n by have:=h.1;omega]
 rw[e];rfl
theorem Ol{a b:ByteArray}(h:a.data.toList=b.data.toList):a=b:=by
 obtain⟨⟨a⟩⟩:=a;obtain⟨⟨b⟩⟩:=b;simp at h;rw[h]
theorem tN(a b:ByteArray):(a++b).data.toList=a.data.toList++b.data.toList:=by
 rw[ByteArray.data_append];simp
theorem gU{l:ByteArray}{ws:List (List UInt8)}{n:Int}(hl:l=fQ (kJ ws))(hw:ws≠[])(h:o9 n):l++GH n=fQ (kJ (ws++[nW n])):=by
 rw[hl,XL h];apply Ol;rw[tN,tN,iQ,iQ,iQ,J5 _ _ hw]
 rfl
theorem Ai{a:dL}(h:rY a):a.line=fQ (kJ a.eU):=by
 cases a with
 | list s =>
   apply Ol;rw[iQ];show (⟨#[108,105,115,116,32]⟩++s:ByteArray).data.toList=_;rw[tN]
   rfl
 | enter o =>
   obtain⟨h1,h2,h3,h4,h5,h6,h7⟩:=h;have e1:fJ (tC o.id o.aG) qy 2=fQ (kJ [[101,110,116,101,114],nW o.id,nW o.aG]) :=
    gU (gU (l:=qy) (ws:=[[101,110,116,101,114]]) rfl (by simp) h1) (by simp) h2
   have e2:fJ (MI o.side o.kind o.af o.aK) o.sym 4=fQ (kJ [o.sym.data.toList,nW o.side,nW o.kind,nW o.af,nW o.aK]) :=
    gU (gU (gU (gU (l:=o.sym) (ws:=[o.sym.data.toList]) (Ol rfl) (by simp) h4) (by simp) h5) (by simp) h6) (by simp) h7
   show oN _ _ _ _ _ _ _=_;unfold oN;rw[e1,e2];apply Ol;rw[tN,tN,iQ,iQ,iQ];show (kJ _++[32])++kJ _=kJ ([[101,110,116,101,114],nW o.id,nW o.aG]++[o.sym.data.toList,nW o.side,nW o.kind,nW o.af,nW o.aK]);rw[Pm _ _ (by simp) (by simp)];simp
 | gy id=>exact gU (l:=⟨#[99,97,110,99,101,108]⟩) (ws:=[[99,97,110,99,101,108]]) rfl (by simp) h
 | replace id af aK =>
   obtain⟨h1,h2,h3⟩:=h;exact gU (gU (gU (l:=⟨#[114,101,112,108,97,99,101]⟩) (ws:=[[114,101,112,108,97,99,101]]) rfl (by simp) h1) (by simp) h2) (by simp) h3
 | nI n again =>
   have e:(if again then (1:Int) else 0)=((AQ again:Nat):Int):=by cases again <;> rfl
   show fJ (tC n (if again then 1 else 0)) zN 2=_;rw[e];have hb:o9 ((AQ again:Nat):Int):=⟨by omega,by cases again <;> decide⟩;exact gU (gU (l:=zN) (ws:=[[98,117,115,116]]) rfl (by simp) h) (by simp) hb
 | dM n b =>
   obtain⟨h1,h2⟩:=h;exact gU (gU (l:=⟨#[99,111,114,114,101,99,116]⟩) (ws:=[[99,111,114,114,101,99,116]]) rfl (by simp) h1) (by simp) h2
 | close=>rfl
theorem UI(n:Int):nW n≠[]/\(32:UInt8)∉nW n/\(10:UInt8)∉nW n:=⟨Ew _,Ql _,Qk _⟩
theorem aav{n:Int}(h:o9 n):(nW n).length<=9:=Jh (by have:=h.1;have:=h.2;omega)
theorem X0{s:ByteArray}(h:Ff s):s.data.toList.length<=100:=by
 have:=h.2.2.2;have e:s.size=s.data.toList.length:=by show s.data.size=_;simp
 omega
theorem qZ{a:dL}(h:rY a):pU a.eU/\∀x∈a.eU,(10:UInt8)∉x:=by
 have key:∀(ws:List (List UInt8)),ws≠[]->ws.length<=8->(∀x∈ws,x≠[]/\(32:UInt8)∉x/\(10:UInt8)∉x/\x.length<=100)->pU ws/\∀x∈ws,(10:UInt8)∉x:=fun ws h1 h2 h3=>by
  refine⟨⟨h1,h2,fun x hx=>⟨(h3 x hx).1,(h3 x hx).2.1⟩,?_⟩,fun x hx=>(h3 x hx).2.2.1⟩;have hl:∀(vs:List (List UInt8)),(∀x∈vs,x.length<=100)->(kJ vs).length<=101 * vs.length:=by
   intro vs
   induction vs with
   | nil=>intro _;simp[kJ]
   | cons v vs ih =>
     intro hv;cases vs with
     | nil=>have:=hv v (by simp);show v.length<=101 * 1;omega
     | cons u vs =>
       have:=ih (fun x hx=>hv x (List.mem_cons_of_mem _ hx));have:=hv v (by simp);rw[qV];simp only[List.length_append,List.length_cons]at *;omega
  have:=hl ws (fun x hx=>(h3 x hx).2.2.2);omega
 have kn:∀{n:Int},o9 n->nW n≠[]/\(32:UInt8)∉nW n/\(10:UInt8)∉nW n/\(nW n).length<=100:=fun hn=>⟨(UI _).1,(UI _).2.1,(UI _).2.2,by have:=aav hn;omega⟩
 have ks:∀{s:ByteArray},Ff s->s.data.toList≠[]/\(32:UInt8)∉s.data.toList/\(10:UInt8)∉s.data.toList/\s.data.toList.length<=100:=fun hs=>⟨hs.1,hs.2.1,hs.2.2.1,X0 hs⟩
 cases a with
 | list s =>
   refine key _ (by simp[dL.eU]) (by simp[dL.eU]) (fun x hx=>?_);simp only[dL.eU,List.mem_cons,List.not_mem_nil,or_false]at hx;rcases hx with rfl | rfl
   ·decide
   ·exact ks h
 | enter o =>
   obtain⟨h1,h2,h3,h4,h5,h6,h7⟩:=h;refine key _ (by simp[dL.eU]) (by simp[dL.eU]) (fun x hx=>?_);simp only[dL.eU,List.mem_cons,List.not_mem_nil,or_false]at hx;rcases hx with rfl | rfl | rfl | rfl | rfl | rfl | rfl | rfl
   ·decide
   ·exact kn h1
   ·exact kn h2
   ·exact ks h3
   ·exact kn h4
   ·exact kn h5
   ·exact kn h6
   ·exact kn h7
 | gy id =>
   refine key _ (by simp[dL.eU]) (by simp[dL.eU]) (fun x hx=>?_);simp only[dL.eU,List.mem_cons,List.not_mem_nil,or_false]at hx;rcases hx with rfl | rfl
   ·decide
   ·exact kn h
 | replace id af aK =>
   obtain⟨h1,h2,h3⟩:=h;refine key _ (by simp[dL.eU]) (by simp[dL.eU]) (fun x hx=>?_);simp only[dL.eU,List.mem_cons,List.not_mem_nil,or_false]at hx;rcases hx with rfl | rfl | rfl | rfl
   ·decide
   ·exact kn h1
   ·exact kn h2
   ·exact kn h3
 | nI n again =>
   refine key _ (by simp[dL.eU]) (by simp[dL.eU]) (fun x hx=>?_);simp only[dL.eU,List.mem_cons,List.not_mem_nil,or_false]at hx;rcases hx with rfl | rfl | rfl
   ·decide
   ·exact kn h
   ·exact kn (n:=((AQ again:Nat):Int)) ⟨by omega,by cases again <;> decide⟩
 | dM n b =>
   obtain⟨h1,h2⟩:=h;refine key _ (by simp[dL.eU]) (by simp[dL.eU]) (fun x hx=>?_);simp only[dL.eU,List.mem_cons,List.not_mem_nil,or_false]at hx;rcases hx with rfl | rfl | rfl
   ·decide
   ·exact kn h1
   ·exact kn h2
 | close =>
   refine key _ (by simp[dL.eU]) (by simp[dL.eU]) (fun x hx=>?_);simp only[dL.eU,List.mem_cons,List.not_mem_nil,or_false]at hx;subst hx;decide
def jR(x:Kx)(a:dL)(S':RS)(w w':World):Prop:=KN x w w' (fun x'=>En x a x'/\x'.S=S'/\x'.H.length=x.H.length+1)
theorem OO{x:Kx}{a:dL}{new:Int->Prop}{Am:List ByteArray}{w w':World}{S':RS}(h:jq w x)(hO:Ic x.bv x.bm x.bo (x.V.gG a.line) x.S x.N a new Am w w')(hA:AR x.S a S')(hfa:jE a):jR x a S' w w':=by
 obtain⟨x',ok',k,hf,q1,q2,q3,⟨⟨nt,S2,eH⟩,_⟩,st⟩:=Xp h (fun _ _=>hfa) hO;exact⟨x',ok',k,hf,q1,q2,q3,st,AR.YA st.1 hA,by rw[eH,List.length_append];rfl⟩
theorem qH{x:Kx}{a:dL}{new:Int->Prop}{Am:List ByteArray}{E:Int}{w w':World}{S':RS}(h:jq w x)(hO:Iu x.bv x.bm x.bo (x.V.gG a.line) x.S x.N a new Am E w w')(hA:AR x.S a S')(hfa:jE a):E=0/\jR x a S' w w':=by
 rcases hO with⟨_,_,hn⟩ | ⟨h0,hO⟩
 ·exact absurd hA (hn S')
 ·exact⟨h0,OO h hO hA hfa⟩
section
variable {x : Kx} {w : World} {S' : RS}
theorem Xw{s:ByteArray}(h:jq w x)(hN:x.N<2000000)(hs:s.size<=1000)(hA:AR x.S (.list s) S')(hfa:jE (.list s)) :
 CT 27 #[PP x.bv,.string s] w fun e w'=>e=.returned (II 0)/\jR x (.list s) S' w w':=by
 refine (yN x.bv x.bm x.bo x.N (x.V.gG (dL.list s).line) x.p x.S s w (h.wO _) (h.wP _) (by omega) (h.NY _) (by omega) (au rfl)).mono ?_;rintro e w' ⟨rfl,hO⟩;obtain⟨e0,hk⟩:=qH h hO hA hfa;rw[e0];exact⟨rfl,hk⟩
theorem Um{o:iT}(h:jq w x)(hT:kP w)(hN:x.N<2000000)(hs:o.sym.size<=1000)(g:rY (.enter o))(hA:AR x.S (.enter o) S')(hfa:jE (.enter o)) :
 CT 64 #[PP x.bv,o.val] w fun e w'=>∃f r c a m,e=.returned (.tuple #[.agg #[II f,II r,II c,II a,II m],II 0])/\jR x (.enter o) S' w w':=by
 obtain⟨g1,g2,g3,g4,g5,g6,g7⟩:=g;refine (BJ x.bv x.bm x.bo x.N (x.V.gG (dL.enter o).line) x.p x.S o w (h.wO _) hT (h.wP _) (by omega) (h.NY _) (by omega) (WalkArith.wf_i64 (by have:=g1.1;have:=g1.2;omega)) ⟨by have:=g2.1;omega,by have:=g2.2;omega⟩ ⟨by have:=g5.1;omega,by have:=g5.2;omega⟩ ⟨by have:=g6.1;omega,by have:=g6.2;omega⟩ (au rfl)).mono ?_;rintro e w' ⟨f,r,c,a,m,rfl,_,hO⟩;obtain⟨e0,hk⟩:=qH h hO hA hfa;rw[e0];exact⟨f,r,c,a,m,rfl,hk⟩
theorem Qq{id:Int}(h:jq w x)(hT:kP w)(hN:x.N<2000000)(g:rY (.gy id))(hA:AR x.S (.gy id) S')(hfa:jE (.gy id)) :
 CT 37 #[PP x.bv,II id] w fun e w'=>e=.returned (II 0)/\jR x (.gy id) S' w w':=by
 refine (zG x.bv x.bm x.bo x.N (x.V.gG (dL.gy id).line) x.p x.S id w (h.wO _) hT (h.wP _) (by omega) (h.NY _) (WalkArith.wf_i64 (by have:=g.1;have:=g.2;omega)) (au rfl)).mono ?_;rintro e w' ⟨E,rfl,_,hO⟩;obtain⟨e0,hk⟩:=qH h hO hA hfa;rw[e0];exact⟨rfl,hk⟩
theorem MZ{id af aK:Int}(h:jq w x)(hT:kP w)(hN:x.N<2000000)(g:rY (.replace id af aK))(hp:dX af=true)(hq:dX aK=true)(hA:AR x.S (.replace id af aK) S')(hfa:jE (.replace id af aK)) :
 CT 38 #[PP x.bv,II id,II af,II aK] w fun e w'=>∃f r c a m,e=.returned (.tuple #[.agg #[II f,II r,II c,II a,II m],II 0])/\jR x (.replace id af aK) S' w w':=by
 refine (xJ x.bv x.bm x.bo x.N (x.V.gG (dL.replace id af aK).line) x.p x.S id af aK w (h.wO _) hT (h.wP _) (by omega) (h.NY _) (WalkArith.wf_i64 (by have:=g.1.1;have:=g.1.2;omega)) hp hq (au rfl)).mono ?_;rintro e w' ⟨f,r,c,a,m,E,rfl,_,hO⟩;obtain⟨e0,hk⟩:=qH h hO hA hfa;rw[e0];exact⟨f,r,c,a,m,rfl,hk⟩
theorem Xv{n:Int}{again:Bool}(h:jq w x)(hT:kP w)(hN:x.N<2000000)(hA:AR x.S (.nI n again) S')(hfa:jE (.nI n again)) :
 CT 39 #[PP x.bv,II n,.bool again] w fun e w'=>e=.returned (II 0)/\jR x (.nI n again) S' w w':=by
 refine (EI x.bv x.bm x.bo x.N (x.V.gG (dL.nI n again).line) x.p x.S n again w (h.wO _) hT (h.wP _) (by omega) (h.NY _) (au rfl)).mono ?_;rintro e w' ⟨E,rfl,_,hO⟩;obtain⟨e0,hk⟩:=qH h hO hA hfa;rw[e0];exact⟨rfl,hk⟩
theorem MX{n b:Int}(h:jq w x)(hT:kP w)(hN:x.N<2000000)(hb:dX b=true)(hA:AR x.S (.dM n b) S')(hfa:jE (.dM n b)) :
 CT 40 #[PP x.bv,II n,II b] w fun e w'=>e=.returned (II 0)/\jR x (.dM n b) S' w w':=by
 refine (xI x.bv x.bm x.bo x.N (x.V.gG (dL.dM n b).line) x.p x.S n b w (h.wO _) hT (h.wP _) (by omega) (h.NY _) hb (au rfl)).mono ?_;rintro e w' ⟨E,rfl,_,hO⟩;obtain⟨e0,hk⟩:=qH h hO hA hfa;rw[e0];exact⟨rfl,hk⟩
theorem Ul(h:jq w x)(hT:kP w)(hN:x.N<2000000)(hA:AR x.S .close S')(hfa:jE .close) :
 CT 41 #[PP x.bv] w fun e w'=>e=.returned (.tuple #[])/\jR x .close S' w w':=by
 refine (BI x.bv x.bm x.bo x.N (x.V.gG dL.close.line) x.p x.S w (h.wO _) hT (h.wP _) (by omega) (h.NY _) (au rfl)).mono ?_;rintro e w' ⟨rfl,hO⟩;exact⟨rfl,OO h hO hA hfa⟩
end
theorem jR.wide{x:Kx}{a:dL}{S':RS}{w W W1 w':World}(k:aj aJ w W)(h:jR x a S' W W1)(k1:aj aJ W1 w'):jR x a S' w w':=by
 obtain⟨x',ok',kc,hf,q1,q2,q3,q4⟩:=h;refine⟨x',ok'.aB k1,(k.bI.trans kc).trans k1.bI,fun b hb=>?_,q1,q2,q3,q4⟩;rcases hf b hb with hx | hx
 ·exact .inl hx
 ·exact .inr (Nat.le_trans k.size hx)
theorem VJ(s:ByteArray):fQ s.data.toList=s:=(VI s).symm
where VI (s:ByteArray):s=fQ s.data.toList:=by obtain ⟨⟨a⟩⟩:=s;rfl
theorem gJ{n:Int}(h:o9 n):((n.toNat:Nat):Int)=n/\n.toNat<1000000000:=⟨by have:=h.1;omega,by have:=h.1;have:=h.2;omega⟩
theorem Ui{x:Kx}{a:dL}{S':RS}{w:World}{m:Int}(h:jq w x)(hT:kP w)(hm:w.cell? ⟨0,0,none⟩=some (II m))(hN:x.N<2000000)(g:jE a)(hA:AR x.S a S') :
 CT 57 #[PP x.bv,.string a.line] w fun e w'=>e=.returned (.bool true)/\jR x a S' w w':=by
 have hl:=Ai g.sN;have hw:=(qZ g.sN).1;rw[hl];cases a with
 | list s =>
   refine (QK (Q:=jR x (.list s) S') hT hm hw (fun W k=>?_)).mono (fun e w' ⟨e1,W,k,q⟩=>⟨e1,q.wide k (aj.refl _ _)⟩);rw[VJ];exact Xw (h.aB k) hN (by have:=(show Ff s from g).2.2.2;omega) hA g
 | enter o =>
   obtain⟨g1,g2,g3,g4,g5,g6,g7⟩:=(show rY (.enter o) from g);refine (NK (Q:=jR x (.enter o) S') hT hm hw (gJ g1).2 (gJ g2).2 (gJ g4).2 (gJ g5).2 (gJ g6).2 (gJ g7).2 (fun W k=>?_)).mono (fun e w' ⟨e1,W,W1,k,q,k1⟩=>⟨e1,q.wide k k1⟩);rw[VJ,(gJ g1).1,(gJ g2).1,(gJ g4).1,(gJ g5).1,(gJ g6).1,(gJ g7).1];exact Um (h.aB k) (hT.aB k) hN (by have:=g3.2.2.2;omega) g hA g
 | gy id =>
   refine (JV (Q:=jR x (.gy id) S') hT hm hw (gJ g).2 (fun W k=>?_)).mono (fun e w' ⟨e1,W,k,q⟩=>⟨e1,q.wide k (aj.refl _ _)⟩);rw[(gJ g).1];exact Qq (h.aB k) (hT.aB k) hN g hA g
 | replace id af aK =>
   obtain⟨⟨g1,g2,g3⟩,hp,hq⟩:=(show rY (.replace id af aK)/\dX af=true/\dX aK=true from g);refine (GU (Q:=jR x (.replace id af aK) S') hT hm hw (gJ g1).2 (gJ g2).2 (gJ g3).2 (fun W k=>?_)).mono (fun e w' ⟨e1,W,W1,k,q,k1⟩=>⟨e1,q.wide k k1⟩);rw[(gJ g1).1,(gJ g2).1,(gJ g3).1];exact MZ (h.aB k) (hT.aB k) hN ⟨g1,g2,g3⟩ hp hq hA g
 | nI n again =>
   refine (QJ (Q:=jR x (.nI n again) S') (b:=again) hT hm hw (gJ g).2 (fun W k=>?_)).mono (fun e w' ⟨e1,W,k,q⟩=>⟨e1,q.wide k (aj.refl _ _)⟩);rw[(gJ g).1];exact Xv (h.aB k) (hT.aB k) hN hA g
 | dM n b =>
   obtain⟨⟨g1,g2⟩,hb⟩:=(show rY (.dM n b)/\dX b=true from g);refine (GR (Q:=jR x (.dM n b) S') hT hm hw (gJ g1).2 (gJ g2).2 (fun W k=>?_)).mono (fun e w' ⟨e1,W,k,q⟩=>⟨e1,q.wide k (aj.refl _ _)⟩);rw[(gJ g1).1,(gJ g2).1];exact MX (h.aB k) (hT.aB k) hN hb hA g
 | close =>
   refine (NJ (Q:=jR x .close S') hT hm (fun W k=>?_)).mono (fun e w' ⟨e1,W,k,q⟩=>⟨e1,q.wide k (aj.refl _ _)⟩);exact Ul (h.aB k) (hT.aB k) hN hA g
open Go.RowKit Go.Maps Go.Shelf
attribute [local go_sem] Oper.semAt_some
theorem xY:∀(ws:List (List UInt8)),(∀x∈ws,(10:UInt8)∉x)->(10:UInt8)∉kJ ws
 | [],_=>by simp[kJ]
 | [x],h=>h x (by simp)
 | x :: y :: ws,h=>by
   rw[qV];intro hm;rcases List.mem_append.1 hm with hm | hm
   ·exact h x (by simp) hm
   ·rcases List.mem_cons.1 hm with hm | hm
    ·exact absurd hm (by decide)
    ·exact xY (y :: ws) (fun z hz=>h z (List.mem_cons_of_mem _ hz)) hm
theorem Ah:∀(ls:List (List UInt8)),(∀x∈ls,x.length<=1000)->(nV ls).length<=1001 * ls.length
 | [],_=>by simp[nV]
 | x :: ls,h=>by
   have ih:=Ah ls (fun z hz=>h z (List.mem_cons_of_mem _ hz));have:=h x (by simp);rw[ui];simp only[List.length_append,List.length_cons,List.length_nil];omega
theorem jq.aaF{W:World}{x:Kx}(h:jq W x){b:Nat}(hb:KF x b):b=x.bm\/b=x.bo\/∃c t,aA W b c t:=by
 rcases hb with hb | ⟨y,hy,c,hc,hcb⟩
 ·rcases h.lG.Tq hb with e | e | ⟨c,t,e,_⟩
  ·exact .inl e
  ·exact .inr (.inl e)
  ·exact .inr (.inr ⟨c,t,e⟩)
 ·have f:=h.mem.fns y hy;obtain⟨i,hi,rfl⟩:=List.mem_iff_getElem.1 hc;have hi':i<y.1.ds.length:=by rw[<-f.len];exact hi
  obtain⟨cs,t',ht,_⟩:=(f.nH i _ _ (List.getElem?_eq_getElem hi') (List.getElem?_eq_getElem hi)).gK hcb;exact .inr (.inr ⟨cs,t',ht⟩)
structure RL(al:List dL)(F:Nat->RS × List Rc)(w:World)(n1 bv k:Nat)(x:Kx)(W:World):Prop where
 ok:jq W x
 st:Rn al F x k
 ebv:x.bv=bv
 kU:∀b,KF x b->w.heap.size+3<=b/\b≠n1/\b≠n1+1/\b≠n1+2
 maps:x.bm<n1/\x.bo<n1
 vB:aA W n1 #[PP bv] 35
 nB:aA W (n1+1) #[II (k:Int)] 3
 r0:aA W w.heap.size #[.pointer none] 35
 r1:aA W (w.heap.size+1) #[II 0] 58
 r2:aA W (w.heap.size+1+1) #[II 0] 3
 jV:aj aJ w W
 ge:w.heap.size+3<=n1
 hs:n1+3<=W.heap.size
theorem Oc(l:List UInt8):Lib.trimSuffix (l++[10]) [10]=l:=by
 unfold Lib.trimSuffix;have h:Lib.hasSuffix (l++[10]) [10]=true:=by
  unfold Lib.hasSuffix;simp
 rw[h];simp
theorem RL.step{al:List dL}{F:Nat->RS × List Rc}{w:World}{n1 bv k:Nat}{x:Kx}{W W1 W2 W3:World}{a:dL}(h:RL al F w n1 bv k x W)(r:Iw al F)(ha:al[k]?=some a)(hW1:W1=W.setCell ⟨n1+1,0,none⟩ (II ((k:Int)+1)))(k2:aj aJ W1 W2)(hag:jR x a (F (k+1)).1 W2 W3) :
 (∃x',RL al F w n1 bv (k+1) x' W3)/\aj (Ot (n1+2) (n1+2) W) W W3:=by
 have k1:aj (fun b=>b=n1+1) W W1:=by rw[hW1];exact (aj.refl (fun b=>b=n1+1) W).setCell (p:=⟨n1+1,0,none⟩) (.inl rfl) _
 have nB1:aA W1 (n1+1) #[II ((k:Int)+1)] 3:=by rw[hW1];exact h.nB.set 0 _
 obtain⟨x',ok',kc,hf,q1,q2,q3,st,hS,hh⟩:=hag;have s1:=k1.size;have s2:=k2.size;have hlt:=h.vB.lt;have hlt2:=h.nB.lt;have hge:=h.ge;have hhs:=h.hs;have s3:=kc.size;have bJ:∀{b:Nat} {c:Array Value} {t:TypeId},aA W b c t->b≠n1+1->(∀y,KF x y->y≠b)->aA W3 b c t:=fun hb h1 h2=>kc.aF (k2.aF (k1.aF hb h1) aU) (fun hx=>h2 _ hx rfl)
 refine⟨⟨x',ok',h.st.next r ha st hS hh q2,by rw[q1];exact h.ebv,fun b hb=>?_,by rw[q3.2.2.2.1,q3.2.2.2.2];exact h.maps,bJ h.vB (by omega) (fun y hy=>(h.kU y hy).2.1),?_,bJ h.r0 (by omega) (fun y hy e=>by have:=(h.kU y hy).1;omega),bJ h.r1 (by omega) (fun y hy e=>by have:=(h.kU y hy).1;omega),bJ h.r2 (by omega) (fun y hy e=>by have:=(h.kU y hy).1;omega),?_,h.ge,by omega⟩,?_⟩
 ·rcases hf b hb with hx | hx
  ·exact h.kU b hx
  ·have hsz:W.heap.size<=b:=by omega
   exact⟨by omega,by omega,by omega,by omega⟩
 ·have:=kc.aF (k2.aF nB1 aU) (fun hx=>(h.kU _ hx).2.2.1 rfl);rw[show ((k+1:Nat):Int)=(k:Int)+1 by omega];exact this
 ·exact ((h.jV.from (k1.mono (fun b e=>.inr (by rw[e];omega)))).trans k2).from (kc.mono (fun b hb=>.inr (by have:=(h.kU b hb).1;omega)))
 ·refine ((k1.mono (fun b e=>?_)).trans k2.bI).trans (kc.mono (fun b hb=>?_))
  ·rw[e];exact⟨by omega,.inl (by omega)⟩
  ·refine⟨(h.kU b hb).2.2.2,?_⟩;rcases h.ok.aaF hb with e | e | e
   ·exact .inl (by have:=h.maps;omega)
   ·exact .inl (by have:=h.maps;omega)
   ·exact .inr e
theorem RL.kZ{al:List dL}{F:Nat->RS × List Rc}{w:World}{n1 bv k:Nat}{x:Kx}{W W':World}(h:RL al F w n1 bv k x W)(kk:aj (wZ (n1+2) (n1+2) W) W W'):RL al F w n1 bv k x W':=by
 have no:∀b,b<n1+2->¬wZ (n1+2) (n1+2) W b:=by
  rintro b hb (e | ⟨e,_⟩) <;> omega
 have hge:=h.ge;have hs:=h.hs;have s1:=kk.size;refine⟨h.ok.aC kk (fun b hb hr=>?_),h.st,h.ebv,h.kU,h.maps,kk.aF h.vB (no _ (by omega)),kk.aF h.nB (no _ (by omega)),kk.aF h.r0 (no _ (by omega)),kk.aF h.r1 (no _ (by omega)),kk.aF h.r2 (no _ (by omega)),h.jV.from (kk.mono (fun b hb=>.inr ?_)),h.ge,by omega⟩
 ·rcases hr with e | ⟨e,hn⟩
  ·exact (h.kU b hb).2.2.2 e
  ·rcases h.ok.aaF hb with e1 | e1 | ⟨c,t,e1⟩
   ·have:=h.maps;omega
   ·have:=h.maps;omega
   ·exact hn c t e1
 ·rcases hb with e | ⟨e,_⟩ <;> omega
theorem YZ(tmps:Array Value)(w:World)(b0 b1 b2:Nat)(q:Option Addr)(n1 n2:Int)(h0:tmps.getD 2 undef=PP b0)(h1:tmps.getD 3 undef=PP b1)(h2:tmps.getD 4 undef=PP b2)(c0:w.cell? ⟨b0,0,none⟩=some (.pointer q))(c1:w.cell? ⟨b1,0,none⟩=some (II n1))(c2:w.cell? ⟨b2,0,none⟩=some (II n2)) :
 (results Tryz.f30 tmps).run Tryz.prog w=.ok (.tuple #[.pointer q,II n1,II n2]) w:=by
 simp only[Array.getD_eq_getD_getElem?]at h0 h1 h2;simp[results,Tryz.results30,go_sem,h0,h1,h2,c0,c1,c2]
theorem U7{w:World}{al:List dL}{F:Nat->RS × List Rc}{cut:List UInt8}{m:Int}(hT:kP w)(hm:w.cell? ⟨0,0,none⟩=some (II m))(g:∀a∈al,jE a)(r:Iw al F)(hne:al≠[])(hl:al.length<=1000)(hcut:(10:UInt8)∉cut)(hc5:cut.length<=10) :
 CT 30 #[.string (fQ (nV (al.map (fun a=>kJ a.eU))++cut))] w fun e w'=>∃x,e=.returned (.tuple #[PP x.bv,II 0,II 0])/\jq w' x/\Rn al F x al.length/\(∀b,KF x b->w.heap.size<=b)/\aj aJ w w':=by
 obtain⟨ls,hls⟩:=mf (al.map (fun a=>kJ a.eU));rw[hls];have wB:ls.length=al.length:=by rw[<-hls,List.length_map]
 have hat:∀(k:Nat) (l:List UInt8),ls[k]?=some l->∃a,al[k]?=some a/\a∈al/\l=kJ a.eU:=fun k l hk=>by
  rw[<-hls,List.getElem?_map]at hk;cases ha:al[k]? with
  | none=>rw[ha]at hk;simp at hk
  | some a=>rw[ha]at hk;simp at hk;exact⟨a,rfl,List.mem_of_getElem? ha,hk.symm⟩
 have hln:∀l∈ls,(10:UInt8)∉l/\l.length<=1000:=fun l hl=>by
  obtain⟨k,hk⟩:=List.mem_iff_getElem?.1 hl;obtain⟨a,_,ha,rfl⟩:=hat k l hk;have hw:=qZ (g a ha).sN;exact⟨xY _ hw.2,hw.1.size⟩
 obtain⟨p,hp⟩:=BF ls (by rw[<-hls];simpa using hne);have hsz:(nV ls).length<=1001 * ls.length:=Ah ls (fun l hl=>(hln l hl).2);have hix:=uu (fQ (nV ls++cut)) 10 (by rw[iR,List.length_append];omega);have hwh:=vJ (nV ls) cut;have hpl:(nV ls).length=p.length+1:=by rw[hp];simp
 rw[hpl]at hwh;have e1:Lib.lastIndexByte (fQ (nV ls++cut)) 10=(p.length:Int):=by rw[hp];exact Jp p cut hcut
 rw[e1]at hix;have hps:p.length+1<=(fQ (nV ls++cut)).size:=by rw[iR,List.length_append];omega
 have hpw:wrap64 ((p.length:Int)+1)=(p.length:Int)+1:=by unfold wrap64;omega
 obtain⟨t,ht⟩:=mf (fQ (nV ls++cut));rw[ht]at hix hwh hps ⊢;have LC:=au (And.intro hT (And.intro hm (And.intro g (And.intro r (And.intro hat (And.intro hln (And.intro wB hl)))))));have HE:=au (And.intro hwh hp);clear hT hm g r hat hln wB hl hne hcut hc5 hsz hpl e1 hls ht hp hwh;refine (callsIn_wide (n:=6)).1 ?_;refine callsIn_of_wp_marks Tryz.func30 rfl trivial ?_ rfl;simp only[Tryz.ntmps30,List.size_toArray,List.length_cons,List.length_nil,Nat.reduceAdd,Nat.reduceSub,Array.replicate_succ,Array.replicate_zero,List.push_toArray,List.append_toArray,List.nil_append,List.cons_append]
 gi_wp2
 refine⟨trivial,CallsIn.mono ((callsIn_wide (n:=5)).2 (MQ _)) ?_⟩;rintro e w1 ⟨x,rfl,ok,k1,hf,hH,hN,htp,hjs⟩;have HX:=au (And.intro ok (And.intro k1 (And.intro hf (And.intro hH (And.intro hN (And.intro htp hjs))))));clear ok k1 hf hH hN htp hjs
 gi_wp2
 refine⟨trivial,CallsIn.mono ((callsIn_wide (n:=5)).2 (hix _)) ?_⟩;rintro e w2 ⟨rfl,hw2⟩
 gi_wp2
 rw[(ae HE).1];refine⟨trivial,(Jv _ _ _).mono ?_⟩;rintro e w3 ⟨rfl,hw3⟩;obtain⟨hT,hm,g,r,hat,hln,wB,yE⟩:=ae LC;obtain⟨ok,k1,hf,hH,hN,htp,hjs⟩:=ae HX;obtain⟨n1,hn1⟩:=mf w1.heap.size;obtain⟨wa,xC⟩:=kL (((w.alloc (.cells #[.pointer none] 35)).alloc (.cells #[II 0] 58)).alloc (.cells #[II 0] 3));rw[<-xC]at k1 hf;have sa:wa.heap.size=w.heap.size+3:=by rw[xC];simp
 have ka:aj aJ w wa:=by rw[xC];exact (((aj.refl aJ w).alloc _).alloc _).alloc _
 have a0:aA wa w.heap.size #[.pointer none] 35:=by rw[xC];exact ((aA.new w _ _).alloc _).alloc _
 have a1:aA wa (w.heap.size+1) #[II 0] 58:=by rw[xC];exact (aA.sQ w _ _ _).alloc _
 have a2:aA wa (w.heap.size+1+1) #[II 0] 3:=by
  rw[xC];have:=aA.new ((w.alloc (.cells #[.pointer none] 35)).alloc (.cells #[II 0] 58)) #[II 0] 3
  simpa using this
 have k3:aj aJ w1 w3:=by rw[hw3];exact (((aj.refl aJ w1).alloc _).alloc _).alloc _
 have s3:w3.heap.size=n1+3:=by rw[hw3];simp[hn1]
 have hs1:=k1.size;have eS:x.S=(F 0).1:=by rw[r.zero];unfold Kx.S;rw[hH];rfl
 have OA:x.V.lg.tp=(F 0).2/\x.V.lg.js=[]:=⟨by rw[r.zero];exact htp,hjs⟩;have h0:RL al F w n1 x.bv 0 x w3:=by
  refine⟨ok.aB k3,⟨eS,OA.1,by rw[OA.2];rfl,by rw[hH];rfl,by omega,by rw[hH];rfl⟩,rfl,fun b hb=>?_,⟨by have:=ok.lt (b:=x.bm) (.inl (.inr (.inl rfl)));omega,by have:=ok.lt (b:=x.bo) (.inl (lN rfl));omega⟩,?_,?_,k3.aF (k1.aF a0 aU) aU,k3.aF (k1.aF a1 aU) aU,k3.aF (k1.aF a2 aU) aU,(ka.trans k1).trans k3,by omega,by omega⟩
  ·have h1:=hf b hb;have h2:=ok.lt hb;exact⟨by omega,by omega,by omega,by omega⟩
  ·rw[hw3,<-hn1];exact ((aA.new w1 _ _).alloc _).alloc _
  ·rw[hw3,<-hn1];exact (aA.sQ w1 _ _ _).alloc _
 have hbox:aA w3 (n1+2) #[.string (fQ (nV ls))] 9:=by
  rw[hw3,<-hn1];have:=aA.new ((w1.alloc (.cells #[PP x.bv] 35)).alloc (.cells #[II 0] 3)) #[.string (fQ (nV ls))] 9
  simpa using this
 obtain⟨HH0,Y9,HS3⟩:=eY h0 hbox s3;have HGe:Hid (w.heap.size+3<=n1):=h0.ge;obtain⟨HAt,HLn⟩:=dE hat hln;clear ok k1 hf hH hN htp hjs wa xC sa ka a0 a1 a2 k3 s3 hs1 eS OA h0 hbox hT hm g r hat hln HX hw2 hw3
 gi_wp2
 refine DL (n1+2) (n1+2) ls (fun l hl=>(ae HLn l hl).1) (fun l hl=>by have:=(ae HLn l hl).2;omega) (fun k W=>∃x',RL al F w n1 x.bv k x' W) (fun _=>False) rfl rfl (ae Y9) (Nat.le_refl _) (by rw[ae HS3];omega) (fun k W W' hI kk=>?_) (fun W W' h _=>h.elim) ⟨x,ae HH0⟩
  (fun l=>{ tmps:=#[Value.string t,undef,Value.pointer (some ⟨w.heap.size,0,none⟩),Value.pointer (some ⟨w.heap.size+1,0,none⟩),Value.pointer (some ⟨w.heap.size+1+1,0,none⟩),Value.pointer (some ⟨n1,0,none⟩),Value.string (fQ (nV ls)),Value.pointer (some ⟨n1+1,0,none⟩),Value.string (fQ (l++[10])),Value.pointer (some ⟨x.bv,0,none⟩),Value.string t,Value.string t,Value.int IntKind.i64 (p.length:Int),Value.int IntKind.i64 ((p.length:Int)+1),Value.string (fQ (nV ls)),Value.string (fQ (nV ls)),Value.func (Fn.func 87) #[] #[Value.pointer (some ⟨n1+1+1,0,none⟩)],Value.string (fQ (l++[10])),undef,undef,undef,undef,undef,undef,undef,undef,undef],defers:=[] }) ?assign ?body ?done ?stop
 ·obtain⟨x',hr⟩:=hI;exact⟨x',hr.kZ kk⟩
 case assign =>
  intro l x2 W K hK
  gi_wp2
  exact hK
 case body =>
  rintro l k x2 W hx2 ⟨x',hr⟩ hW;obtain⟨hT,hm,g,r,hat,hln,wB,yE⟩:=ae LC;obtain⟨a,ha,ham,rfl⟩:=hat k x2 hx2;have hkl:k<al.length:=(List.getElem?_eq_some_iff.1 ha).1;have n0:CC W (n1+1) 0 (II (k:Int)):=hr.nB.cell 0;have f0:=hr.nB.frozen 0;have v0:CC W n1 0 (PP x.bv):=hr.vB.cell 0;have hkw:wrap64 ((k:Int)+1)=(k:Int)+1:=by unfold wrap64;omega
  obtain⟨W1,hW1⟩:=kL (W.setCell ⟨n1+1,0,none⟩ (II ((k:Int)+1)));have Zg:∀W',CallsIn (Fence.wide.inRound l) 3 Tryz.prog 58 #[.string (fQ (kJ a.eU++[10])),.string ⟨#[10]⟩] W' fun e w'=>e=.returned (.string (fQ (kJ a.eU)))/\w'=W':=fun W'=>by
   have hc:=uw (fQ (kJ a.eU++[10])) ⟨#[10]⟩ W' (by rw[iR,List.length_append];have:=(qZ (g a ham).sN).1.size;simp;omega);rw[iQ,show (⟨#[10]⟩:ByteArray).data.toList=[10] from rfl,Oc]at hc;exact (callsIn_wide (n:=3)).2 hc
  have WJ:∀W2,aj aJ W1 W2->CallsIn (Fence.wide.inRound l) 3 Tryz.prog 57 #[PP x.bv,.string (fQ (kJ a.eU))] W2 fun e w'=>e=.returned (.bool true)/\jR x' a (F (k+1)).1 W2 w':=fun W2 k2=>by
   have k1:aj (fun b=>b=n1+1) W W1:=by rw[hW1];exact (aj.refl (fun b=>b=n1+1) W).setCell (p:=⟨n1+1,0,none⟩) (.inl rfl) _
   have hge:=hr.ge;have kw:aj aJ w W2:=(hr.jV.from (k1.mono (fun b e=>.inr (by rw[e];omega)))).trans k2;have hc:=Ui (a:=a) (S':=(F (k+1)).1) (m:=m) ((hr.ok.aC k1 (fun b hb e=>(hr.kU b hb).2.2.1 e)).aB k2) (hT.aB kw) (kw.cell hm aU) (by have:=hr.st.n;omega) (g a ham) (by rw[hr.st.S];exact (r.step k a ha).1);rw[hr.ebv,Ai (g a ham).sN]at hc;exact (callsIn_wide (n:=3)).2 hc
  obtain⟨HRL,HRr⟩:=dE hr r;rw[hW1]at WJ;clear hr hT hm g r hat hln wB yE hW1 W1
  gi_wp2
  gi_region_with (first
   | (refine⟨trivial,CallsIn.mono (Zg _) ?_⟩;rintro e wq ⟨rfl,rfl⟩)
   | (refine⟨trivial,CallsIn.mono (WJ _ (by repeat (first | exact aj.refl _ _ | refine aj.drew ?_))) ?_⟩;rintro e wz ⟨rfl,hag⟩))
  all_goals
   have hst:=(ae HRL).step (ae HRr) ha rfl (by repeat (first | exact aj.refl _ _ | refine aj.drew ?_)) hag;obtain⟨hsx,hsc⟩:=hst;obtain⟨HSx,HSc⟩:=dE hsx hsc;clear hsx hsc hag
   gi_wp2
   first | exact⟨.inl ⟨rfl,ae HSx⟩,ae HSc⟩ | exact⟨.inl (ae HSx),ae HSc⟩ | exact⟨ae HSx,ae HSc⟩
 case done =>
  rintro D W hD ⟨x',hr⟩ hK;have v0:CC W n1 0 (PP x.bv):=hr.vB.cell 0;have c0:CC W w.heap.size 0 (.pointer none):=hr.r0.cell 0;have c1:CC W (w.heap.size+1) 0 (II 0):=hr.r1.cell 0;have c2:CC W (w.heap.size+1+1) 0 (II 0):=hr.r2.cell 0;have g0:=hr.r0.frozen 0;have g1:=hr.r1.frozen 0;have g2:=hr.r2.frozen 0;obtain⟨HR,HKd⟩:=dE hr hK;clear hr hK
  gi_wp2
  obtain⟨Wf,hWf⟩:=kL (((W.setCell ⟨w.heap.size,0,none⟩ (PP x.bv)).setCell ⟨w.heap.size+1,0,none⟩ (II 0)).setCell ⟨w.heap.size+1+1,0,none⟩ (II 0));rw[<-hWf];have hr:=ae HR;have hK:=ae HKd;have hge:=hr.ge;have kf:aj (fun b=>w.heap.size<=b/\b<w.heap.size+3) W Wf:=by
   rw[hWf];exact (((aj.refl _ W).setCell (p:=⟨w.heap.size,0,none⟩) (.inl ⟨by show w.heap.size<=w.heap.size;omega,by show w.heap.size<w.heap.size+3;omega⟩) _).setCell (p:=⟨w.heap.size+1,0,none⟩) (.inl ⟨by show w.heap.size<=w.heap.size+1;omega,by show w.heap.size+1<w.heap.size+3;omega⟩) _).setCell (p:=⟨w.heap.size+1+1,0,none⟩) (.inl ⟨by show w.heap.size<=w.heap.size+1+1;omega,by show w.heap.size+1+1<w.heap.size+3;omega⟩) _
  have hKf:Wf.heap[D]?=some (.deferred (some [])):=(kf.block D (Array.getElem?_eq_some_iff.1 hK).1 (fun h=>by omega)).trans hK;have f0:Wf.cell? ⟨w.heap.size,0,none⟩=some (PP x.bv):=by rw[hWf];exact aA.cell (((hr.r0.set 0 (PP x.bv)).other (by simp <;> omega) _).other (by simp <;> omega) _) 0
  have f1:Wf.cell? ⟨w.heap.size+1,0,none⟩=some (II 0):=by rw[hWf];exact aA.cell (((hr.r1.other (by simp <;> omega) _).set 0 (II 0)).other (by simp <;> omega) _) 0
  have f2:Wf.cell? ⟨w.heap.size+1+1,0,none⟩=some (II 0):=by rw[hWf];exact aA.cell (((hr.r2.other (by simp <;> omega) _).other (by simp <;> omega) _).set 0 (II 0)) 0
  have kg:aj (fun b=>b=D) Wf (Wf.putObj D (.deferred none)):=(aj.refl (fun b=>b=D) Wf).putObj (.inl rfl) _;refine⟨by simp,.inl ⟨_,_,rfl,run_takeDeferred hKf,?_⟩⟩;refine⟨_,YZ _ _ w.heap.size (w.heap.size+1) (w.heap.size+1+1) _ _ _ rfl rfl rfl (kg.cell f0 (fun e=>by have:w.heap.size=D:=e;omega)) (kg.cell f1 (fun e=>by have:w.heap.size+1=D:=e;omega)) (kg.cell f2 (fun e=>by have:w.heap.size+1+1=D:=e;omega)),x',by rw[hr.ebv],?_,?_,fun b hb=>by have:=(hr.kU b hb).1;omega,(hr.jV.from (kf.mono (fun b hb=>.inr hb.1))).from (kg.mono (fun b e=>.inr (by rw[e];omega)))⟩
  ·refine (hr.ok.aC kf (fun b hb h=>by have:=(hr.kU b hb).1;omega)).aC kg (fun b hb e=>?_);subst e;rcases hr.ok.aaF hb with e1 | e1 | ⟨c,t',e1⟩
   ·have:=hr.maps;omega
   ·have:=hr.maps;omega
   ·unfold aA at e1;rw[hK]at e1;cases e1
  ·obtain⟨hT,hm,g,r,hat,hln,wB,yE⟩:=ae LC;rw[<-wB];exact hr.st
 case stop=>intro D W hD h;exact h.elim
theorem U6{w:World}{al:List dL}{F:Nat->RS × List Rc}{m:Int}(hT:kP w)(hm:w.cell? ⟨0,0,none⟩=some (II m))(g:∀a∈al,jE a)(r:Iw al F)(hl:al.length<=1000) :
 CT 30 #[.string (fQ (nV (al.map (fun a=>kJ a.eU)++[[99,108,111,115]])++[]))] w fun e w'=>e=.returned (.tuple #[.pointer none,II 13,II ((al.length:Int)+1)])/\aj aJ w w':=by
 obtain⟨ls,hls⟩:=mf (al.map (fun a=>kJ a.eU)++[[99,108,111,115]]);rw[hls];have wB:ls.length=al.length+1:=by rw[<-hls,List.length_append,List.length_map];rfl
 have hat:∀(k:Nat) (l:List UInt8),ls[k]?=some l->(∃a,al[k]?=some a/\a∈al/\l=kJ a.eU)\/(k=al.length/\l=[99,108,111,115]):=fun k l hk=>by
  rw[<-hls]at hk;by_cases hlt:k<al.length
  ·left;rw[List.getElem?_append_left (by rw[List.length_map];exact hlt),List.getElem?_map]at hk;cases ha:al[k]? with
   | none=>rw[ha]at hk;simp at hk
   | some a=>rw[ha]at hk;simp at hk;exact⟨a,rfl,List.mem_of_getElem? ha,hk.symm⟩
  ·right;rw[List.getElem?_append_right (by rw[List.length_map];omega),List.length_map]at hk;cases e:k-al.length with
   | zero=>rw[e]at hk;simp at hk;exact⟨by omega,hk.symm⟩
   | succ n=>rw[e]at hk;simp at hk
 have hln:∀l∈ls,(10:UInt8)∉l/\l.length<=1000:=fun l hl=>by
  obtain⟨k,hk⟩:=List.mem_iff_getElem?.1 hl;rcases hat k l hk with⟨a,_,ha,rfl⟩ | ⟨_,rfl⟩
  ·have hw:=qZ (g a ha).sN;exact⟨xY _ hw.2,hw.1.size⟩
  ·decide
 obtain⟨p,hp⟩:=BF ls (by rw[<-hls];simp);have hsz:(nV ls).length<=1001 * ls.length:=Ah ls (fun l hl=>(hln l hl).2);have hix:=uu (fQ (nV ls++[])) 10 (by rw[iR,List.length_append,List.length_nil];omega);have hwh:=vJ (nV ls) [];have hpl:(nV ls).length=p.length+1:=by rw[hp];simp
 rw[hpl]at hwh;have e1:Lib.lastIndexByte (fQ (nV ls++[])) 10=(p.length:Int):=by rw[hp];exact Jp p [] (by simp)
 rw[e1]at hix;have hps:p.length+1<=(fQ (nV ls++[])).size:=by rw[iR,List.length_append];omega
 have hpw:wrap64 ((p.length:Int)+1)=(p.length:Int)+1:=by unfold wrap64;omega
 obtain⟨t,ht⟩:=mf (fQ (nV ls++[]));rw[ht]at hix hwh hps ⊢;have LC:=au (And.intro hT (And.intro hm (And.intro g (And.intro r (And.intro hat (And.intro hln (And.intro wB hl)))))));have HE:=au (And.intro hwh hp);clear hT hm g r hat hln wB hl hsz hpl e1 hls ht hp hwh;refine (callsIn_wide (n:=6)).1 ?_;refine callsIn_of_wp_marks Tryz.func30 rfl trivial ?_ rfl;simp only[Tryz.ntmps30,List.size_toArray,List.length_cons,List.length_nil,Nat.reduceAdd,Nat.reduceSub,Array.replicate_succ,Array.replicate_zero,List.push_toArray,List.append_toArray,List.nil_append,List.cons_append]
 gi_wp2
 refine⟨trivial,CallsIn.mono ((callsIn_wide (n:=5)).2 (MQ _)) ?_⟩;rintro e w1 ⟨x,rfl,ok,k1,hf,hH,hN,htp,hjs⟩;have HX:=au (And.intro ok (And.intro k1 (And.intro hf (And.intro hH (And.intro hN (And.intro htp hjs))))));clear ok k1 hf hH hN htp hjs
 gi_wp2
 refine⟨trivial,CallsIn.mono ((callsIn_wide (n:=5)).2 (hix _)) ?_⟩;rintro e w2 ⟨rfl,hw2⟩
 gi_wp2
 rw[(ae HE).1];refine⟨trivial,(Jv _ _ _).mono ?_⟩;rintro e w3 ⟨rfl,hw3⟩;obtain⟨hT,hm,g,r,hat,hln,wB,yE⟩:=ae LC;obtain⟨ok,k1,hf,hH,hN,htp,hjs⟩:=ae HX;obtain⟨n1,hn1⟩:=mf w1.heap.size;obtain⟨wa,xC⟩:=kL (((w.alloc (.cells #[.pointer none] 35)).alloc (.cells #[II 0] 58)).alloc (.cells #[II 0] 3));rw[<-xC]at k1 hf;have sa:wa.heap.size=w.heap.size+3:=by rw[xC];simp
 have ka:aj aJ w wa:=by rw[xC];exact (((aj.refl aJ w).alloc _).alloc _).alloc _
 have a0:aA wa w.heap.size #[.pointer none] 35:=by rw[xC];exact ((aA.new w _ _).alloc _).alloc _
 have a1:aA wa (w.heap.size+1) #[II 0] 58:=by rw[xC];exact (aA.sQ w _ _ _).alloc _
 have a2:aA wa (w.heap.size+1+1) #[II 0] 3:=by
  rw[xC];have:=aA.new ((w.alloc (.cells #[.pointer none] 35)).alloc (.cells #[II 0] 58)) #[II 0] 3
  simpa using this
 have k3:aj aJ w1 w3:=by rw[hw3];exact (((aj.refl aJ w1).alloc _).alloc _).alloc _
 have s3:w3.heap.size=n1+3:=by rw[hw3];simp[hn1]
 have hs1:=k1.size;have eS:x.S=(F 0).1:=by rw[r.zero];unfold Kx.S;rw[hH];rfl
 have OA:x.V.lg.tp=(F 0).2/\x.V.lg.js=[]:=⟨by rw[r.zero];exact htp,hjs⟩;have h0:RL al F w n1 x.bv 0 x w3:=by
  refine⟨ok.aB k3,⟨eS,OA.1,by rw[OA.2];rfl,by rw[hH];rfl,by omega,by rw[hH];rfl⟩,rfl,fun b hb=>?_,⟨by have:=ok.lt (b:=x.bm) (.inl (.inr (.inl rfl)));omega,by have:=ok.lt (b:=x.bo) (.inl (lN rfl));omega⟩,?_,?_,k3.aF (k1.aF a0 aU) aU,k3.aF (k1.aF a1 aU) aU,k3.aF (k1.aF a2 aU) aU,(ka.trans k1).trans k3,by omega,by omega⟩
  ·have h1:=hf b hb;have h2:=ok.lt hb;exact⟨by omega,by omega,by omega,by omega⟩
  ·rw[hw3,<-hn1];exact ((aA.new w1 _ _).alloc _).alloc _
  ·rw[hw3,<-hn1];exact (aA.sQ w1 _ _ _).alloc _
 have hbox:aA w3 (n1+2) #[.string (fQ (nV ls))] 9:=by
  rw[hw3,<-hn1];have:=aA.new ((w1.alloc (.cells #[PP x.bv] 35)).alloc (.cells #[II 0] 3)) #[.string (fQ (nV ls))] 9
  simpa using this
 obtain⟨HH0,Y9,HS3⟩:=eY h0 hbox s3;have HGe:Hid (w.heap.size+3<=n1):=h0.ge;obtain⟨HAt,HLn⟩:=dE hat hln;clear ok k1 hf hH hN htp hjs wa xC sa ka a0 a1 a2 k3 s3 hs1 eS OA h0 hbox hT hm g r hat hln HX hw2 hw3
 gi_wp2
 refine DL (n1+2) (n1+2) ls (fun l hl=>(ae HLn l hl).1) (fun l hl=>by have:=(ae HLn l hl).2;omega) (fun k W=>k<=al.length/\∃x',RL al F w n1 x.bv k x' W) (fun W=>aA W w.heap.size #[.pointer none] 35/\aA W (w.heap.size+1) #[II 13] 58/\aA W (w.heap.size+1+1) #[II ((al.length:Int)+1)] 3/\aj aJ w W) rfl rfl (ae Y9) (Nat.le_refl _) (by rw[ae HS3];omega) (fun k W W' hI kk=>?_) (fun W W' h kk=>?_) ⟨Nat.zero_le _,x,ae HH0⟩
  (fun l=>{ tmps:=#[Value.string t,undef,Value.pointer (some ⟨w.heap.size,0,none⟩),Value.pointer (some ⟨w.heap.size+1,0,none⟩),Value.pointer (some ⟨w.heap.size+1+1,0,none⟩),Value.pointer (some ⟨n1,0,none⟩),Value.string (fQ (nV ls)),Value.pointer (some ⟨n1+1,0,none⟩),Value.string (fQ (l++[10])),Value.pointer (some ⟨x.bv,0,none⟩),Value.string t,Value.string t,Value.int IntKind.i64 (p.length:Int),Value.int IntKind.i64 ((p.length:Int)+1),Value.string (fQ (nV ls)),Value.string (fQ (nV ls)),Value.func (Fn.func 87) #[] #[Value.pointer (some ⟨n1+1+1,0,none⟩)],Value.string (fQ (l++[10])),undef,undef,undef,undef,undef,undef,undef,undef,undef],defers:=[] }) ?assign ?body ?done ?stop
 ·obtain⟨hk0,x',hr⟩:=hI;exact⟨hk0,x',hr.kZ kk⟩
 ·obtain⟨b0,b1,b2,kw⟩:=h;have hge:=ae HGe;have no:∀b,b<n1+2->¬wZ (n1+2) (n1+2) W b:=by
   rintro b hb (e | ⟨e,_⟩) <;> omega
  exact⟨kk.aF b0 (no _ (by omega)),kk.aF b1 (no _ (by omega)),kk.aF b2 (no _ (by omega)),kw.from (kk.mono (fun b hb=>.inr (by rcases hb with e | ⟨e,_⟩ <;> omega)))⟩
 case assign =>
  intro l x2 W K hK
  gi_wp2
  exact hK
 case body =>
  rintro l k x2 W hx2 ⟨hk0,x',hr⟩ hW;obtain⟨hT,hm,g,r,hat,hln,wB,yE⟩:=ae LC;rcases hat k x2 hx2 with⟨a,ha,ham,rfl⟩ | ⟨rfl,rfl⟩
  ·have hkl:k<al.length:=(List.getElem?_eq_some_iff.1 ha).1;have n0:CC W (n1+1) 0 (II (k:Int)):=hr.nB.cell 0;have f0:=hr.nB.frozen 0;have v0:CC W n1 0 (PP x.bv):=hr.vB.cell 0;have hkw:wrap64 ((k:Int)+1)=(k:Int)+1:=by unfold wrap64;omega
   obtain⟨W1,hW1⟩:=kL (W.setCell ⟨n1+1,0,none⟩ (II ((k:Int)+1)));have Zg:∀W',CallsIn (Fence.wide.inRound l) 3 Tryz.prog 58 #[.string (fQ (kJ a.eU++[10])),.string ⟨#[10]⟩] W' fun e w'=>e=.returned (.string (fQ (kJ a.eU)))/\w'=W':=fun W'=>by
    have hc:=uw (fQ (kJ a.eU++[10])) ⟨#[10]⟩ W' (by rw[iR,List.length_append];have:=(qZ (g a ham).sN).1.size;simp;omega);rw[iQ,show (⟨#[10]⟩:ByteArray).data.toList=[10] from rfl,Oc]at hc;exact (callsIn_wide (n:=3)).2 hc
   have WJ:∀W2,aj aJ W1 W2->CallsIn (Fence.wide.inRound l) 3 Tryz.prog 57 #[PP x.bv,.string (fQ (kJ a.eU))] W2 fun e w'=>e=.returned (.bool true)/\jR x' a (F (k+1)).1 W2 w':=fun W2 k2=>by
    have k1:aj (fun b=>b=n1+1) W W1:=by rw[hW1];exact (aj.refl (fun b=>b=n1+1) W).setCell (p:=⟨n1+1,0,none⟩) (.inl rfl) _
    have hge:=hr.ge;have kw:aj aJ w W2:=(hr.jV.from (k1.mono (fun b e=>.inr (by rw[e];omega)))).trans k2;have hc:=Ui (a:=a) (S':=(F (k+1)).1) (m:=m) ((hr.ok.aC k1 (fun b hb e=>(hr.kU b hb).2.2.1 e)).aB k2) (hT.aB kw) (kw.cell hm aU) (by have:=hr.st.n;omega) (g a ham) (by rw[hr.st.S];exact (r.step k a ha).1);rw[hr.ebv,Ai (g a ham).sN]at hc;exact (callsIn_wide (n:=3)).2 hc
   obtain⟨HRL,HRr⟩:=dE hr r;rw[hW1]at WJ;clear hr hT hm g r hat hln wB yE hW1 W1
   gi_wp2
   gi_region_with (first
    | (refine⟨trivial,CallsIn.mono (Zg _) ?_⟩;rintro e wq ⟨rfl,rfl⟩)
    | (refine⟨trivial,CallsIn.mono (WJ _ (by repeat (first | exact aj.refl _ _ | refine aj.drew ?_))) ?_⟩;rintro e wz ⟨rfl,hag⟩))
   all_goals
    have hst:=(ae HRL).step (ae HRr) ha rfl (by repeat (first | exact aj.refl _ _ | refine aj.drew ?_)) hag;obtain⟨hsx,hsc⟩:=hst;obtain⟨HSx,HSc⟩:=dE hsx hsc;clear hsx hsc hag
    gi_wp2
    exact⟨⟨by omega,ae HSx⟩,ae HSc⟩
  ·have n0:CC W (n1+1) 0 (II (al.length:Int)):=hr.nB.cell 0;have f0:=hr.nB.frozen 0;have v0:CC W n1 0 (PP x.bv):=hr.vB.cell 0;have hkw:wrap64 ((al.length:Int)+1)=(al.length:Int)+1:=by unfold wrap64;omega
   have Zg:∀W',CallsIn (Fence.wide.inRound l) 3 Tryz.prog 58 #[.string (fQ ([99,108,111,115]++[10])),.string ⟨#[10]⟩] W' fun e w'=>e=.returned (.string (fQ (kJ [[99,108,111,115]])))/\w'=W':=fun W'=>by
    have hc:=uw (fQ ([99,108,111,115]++[10])) ⟨#[10]⟩ W' (by rw[iR];decide);rw[iQ,show (⟨#[10]⟩:ByteArray).data.toList=[10] from rfl,Oc]at hc;exact (callsIn_wide (n:=3)).2 hc
   have k1:aj (fun b=>b=n1+1) W (W.setCell ⟨n1+1,0,none⟩ (II ((al.length:Int)+1))):=(aj.refl (fun b=>b=n1+1) W).setCell (p:=⟨n1+1,0,none⟩) (.inl rfl) _;have hge:=hr.ge;have WJ:∀W2,aj aJ (W.setCell ⟨n1+1,0,none⟩ (II ((al.length:Int)+1))) W2->CallsIn (Fence.wide.inRound l) 3 Tryz.prog 57 #[PP x.bv,.string (fQ (kJ [[99,108,111,115]]))] W2 fun e w'=>e=.returned (.bool false)/\aj aJ (W.setCell ⟨n1+1,0,none⟩ (II ((al.length:Int)+1))) w':=fun W2 k2=>by
    have kw:aj aJ w W2:=(hr.jV.from (k1.mono (fun b e=>.inr (by rw[e];omega)))).trans k2;exact (callsIn_wide (n:=3)).2 ((U2 (bv:=x.bv) (hT.aB kw) (kw.cell hm aU)).mono (fun e w' ⟨e1,k3⟩=>⟨e1,k2.trans k3⟩))
   obtain⟨HRL,Rk⟩:=dE hr k1;clear hr hT hm g r hat hln wB yE k1
   gi_wp2
   gi_region_with (first
    | (refine⟨trivial,CallsIn.mono (Zg _) ?_⟩;rintro e wq ⟨rfl,rfl⟩)
    | (refine⟨trivial,CallsIn.mono (WJ _ (by repeat (first | exact aj.refl _ _ | refine aj.drew ?_))) ?_⟩;rintro e wz ⟨rfl,kz⟩))
   all_goals
    have hr:=ae HRL;have k1:=ae Rk;have nBz:aA wz (n1+1) #[II ((al.length:Int)+1)] 3:=kz.aF (hr.nB.set 0 _) aU;have z0:aA wz w.heap.size #[.pointer none] 35:=kz.aF (k1.aF hr.r0 (by omega)) aU;have z1:aA wz (w.heap.size+1) #[II 0] 58:=kz.aF (k1.aF hr.r1 (by omega)) aU;have z2:aA wz (w.heap.size+1+1) #[II 0] 3:=kz.aF (k1.aF hr.r2 (by omega)) aU;have y0:CC wz (n1+1) 0 (II ((al.length:Int)+1)):=nBz.cell 0;have c0:CC wz w.heap.size 0 (.pointer none):=z0.cell 0;have c1:CC wz (w.heap.size+1) 0 (II 0):=z1.cell 0;have c2:CC wz (w.heap.size+1+1) 0 (II 0):=z2.cell 0;have g0:=z0.frozen 0;have g1:=z1.frozen 0;have g2:=z2.frozen 0;have HZ:=au (And.intro z0 (And.intro z1 (And.intro z2 kz)));clear hr k1 nBz z0 z1 z2 kz
    gi_wp2
    gi_region
    all_goals
     obtain⟨Wt,hWt⟩:=kL (((wz.setCell ⟨w.heap.size,0,none⟩ (.pointer none)).setCell ⟨w.heap.size+1,0,none⟩ (II 13)).setCell ⟨w.heap.size+1+1,0,none⟩ (II ((al.length:Int)+1)));rw[<-hWt];have fin:(aA Wt.drew w.heap.size #[.pointer none] 35/\aA Wt.drew (w.heap.size+1) #[II 13] 58/\aA Wt.drew (w.heap.size+1+1) #[II ((al.length:Int)+1)] 3/\aj aJ w Wt.drew)/\aj (Ot (n1+2) (n1+2) W) W Wt.drew:=by
      obtain⟨z0,z1,z2,kz⟩:=ae HZ;have hr:=ae HRL;have kt:aj (fun b=>w.heap.size<=b/\b<w.heap.size+3) wz Wt:=by
       rw[hWt];exact (((aj.refl _ wz).setCell (p:=⟨w.heap.size,0,none⟩) (.inl ⟨by show w.heap.size<=w.heap.size;omega,by show w.heap.size<w.heap.size+3;omega⟩) _).setCell (p:=⟨w.heap.size+1,0,none⟩) (.inl ⟨by show w.heap.size<=w.heap.size+1;omega,by show w.heap.size+1<w.heap.size+3;omega⟩) _).setCell (p:=⟨w.heap.size+1+1,0,none⟩) (.inl ⟨by show w.heap.size<=w.heap.size+1+1;omega,by show w.heap.size+1+1<w.heap.size+3;omega⟩) _
      have k1:=ae Rk;have kw:aj aJ w wz:=(hr.jV.from (k1.mono (fun b e=>.inr (by rw[e];omega)))).trans kz;refine⟨⟨?_,?_,?_,(kw.from (kt.mono (fun b hb=>.inr hb.1))).drew⟩,(((k1.mono (fun b e=>?_)).trans kz.bI).trans (kt.mono (fun b hb=>?_))).drew⟩
      ·rw[hWt];exact ((((z0.set 0 (.pointer none)).other (by simp <;> omega) _).other (by simp <;> omega) _)).drew
      ·rw[hWt];exact (((z1.other (by simp <;> omega) _).set 0 (II 13)).other (by simp <;> omega) _).drew
      ·rw[hWt];exact (((z2.other (by simp <;> omega) _).other (by simp <;> omega) _).set 0 (II ((al.length:Int)+1))).drew
      ·rw[e];exact⟨by omega,.inl (by omega)⟩
      ·exact⟨by omega,.inl (by omega)⟩
     have Yh:=au fin;clear fin hWt
     gi_wp2
     first | exact ae Yh | exact⟨.inr ⟨rfl,(ae Yh).1⟩,(ae Yh).2⟩ | exact⟨.inr (ae Yh).1,(ae Yh).2⟩
 case done =>
  rintro D W hD ⟨hk0,_⟩ hK;obtain⟨hT,hm,g,r,hat,hln,wB,yE⟩:=ae LC;omega
 case stop =>
  rintro D W hD ⟨b0,b1,b2,kw⟩ hK;have hge:=ae HGe
  gi_wp2
  refine⟨by simp,.inl ⟨_,_,rfl,run_takeDeferred hK,?_⟩⟩;have kg:aj (fun b=>b=D) W (W.putObj D (.deferred none)):=(aj.refl (fun b=>b=D) W).putObj (.inl rfl) _;exact⟨_,YZ _ _ w.heap.size (w.heap.size+1) (w.heap.size+1+1) _ _ _ rfl rfl rfl (kg.cell (b0.cell 0) (fun e=>by have:w.heap.size=D:=e;omega)) (kg.cell (b1.cell 0) (fun e=>by have:w.heap.size+1=D:=e;omega)) (kg.cell (b2.cell 0) (fun e=>by have:w.heap.size+1+1=D:=e;omega)),rfl,kw.from (kg.mono (fun b e=>.inr (by rw[e];omega)))⟩
end Go.Proofs.YtigaphnafnpfnaaGreatDoor
