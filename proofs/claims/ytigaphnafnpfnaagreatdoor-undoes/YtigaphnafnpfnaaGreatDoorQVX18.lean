import Derived.Test.YtigaphnafnpfnaaGreatDoorQVU1
import Derived.Deep.Cut
set_option linter.unusedVariables false
set_option linter.unusedSimpArgs false
set_option maxHeartbeats 8000000
set_option maxRecDepth 100000
namespace Go.Proofs.YtigaphnafnpfnaaGreatDoor
open Go.RowKit
attribute [local go_sem ↓] Go.wp_at_zero Go.wp_at_succ
def RF(rb:Nat)(av rv:Value)(b:Nat):Prop:=b=rb\/av.ownBlock=some b\/rv.ownBlock=some b
theorem RV.lt{w:World}{base c:Nat}{A:List bD}{R:List Rc}{e:ByteArray}{av d:Value}(h:RV w base c A R e av d){b:Nat}(a:RF c av d b):base<=b/\b<w.heap.size:=by
 rcases a with rfl | a | a
 ·exact⟨h.ge,h.ay.lt⟩
 ·exact h.sQ.lt _ a
 ·exact h.ug.lt _ a
def wC(base rb:Nat)(A:List bD)(R:List Rc)(L:ByteArray)(av rv:Value)(w w':World):Prop:=∃Yy rv',RV w' base rb A R L Yy rv'/\(∀b,RF rb Yy rv' b->RF rb av rv b\/w.heap.size<=b)/\aj (RF rb av rv) w w'
theorem wC.refl{w:World}{base d:Nat}{A:List bD}{R:List Rc}{c:ByteArray}{av a:Value}(h:RV w base d A R c av a):wC base d A R c av a w w:=⟨av,a,h,fun b e=>.inl e,aj.refl _ _⟩
theorem wC.ext{w w' f:World}{base d:Nat}{A:List bD}{R:List Rc}{c:ByteArray}{av e:Value}(h:wC base d A R c av e w w')(k:aj aA w' f):wC base d A R c av e w f:=by
 obtain⟨a,b,g,i,j⟩:=h;exact⟨a,b,g.ax k,i,j.trans k.aP⟩
theorem wC.pre{g w w':World}{base e:Nat}{A:List bD}{R:List Rc}{d:ByteArray}{av f:Value}(k:aj aA g w)(h:wC base e A R d av f w w'):wC base e A R d av f g w':=by
 obtain⟨a,b,i,j,l⟩:=h;exact⟨a,b,i,fun c m=>(j c m).imp_right (fun x=>Nat.le_trans k.size x),k.aP.trans l⟩
theorem wC.trans{w w' n:World}{base e:Nat}{A f:List bD}{R i:List Rc}{g L':ByteArray}{av m:Value}(h:wC base e A R g av m w w')(k:∀a b,RV w' base e A R g a b->wC base e f i L' a b w' n):wC base e f i L' av m w n:=by
 obtain⟨a,b,p,j,l⟩:=h;obtain⟨o,b',q,r,s⟩:=k a b p;refine⟨o,b',q,fun c d=>?_,l.from (s.mono j)⟩;rcases r c d with d | d
 ·exact j c d
 ·exact .inr (Nat.le_trans l.size d)
theorem RV.Su{f w2:World}{base c n H g cap:Nat}{A:List bD}{R:List Rc}{m:ByteArray}{av d:Value}{r:Rc}(h:RV f base c A R m av d)(u:R.length=n)(hown:w2.ownsRow base 62 9 (.slice (some ⟨g,0,none⟩) (n+1) cap) (n+1) (gm R++r.cells))(o:f.grownBy w2 d.ownBlock)(s:d.ownBlock=some g\/g=H)(hH:f.heap.size=H) :
 wC base c A (R++[r]) m av d f (w2.setCell ⟨c,1,none⟩ (.slice (some ⟨g,0,none⟩) (n+1) cap)):=by
 have v:d.ownBlock≠some c:=fun e=>by obtain⟨cs,j⟩:=aF h.ug e;exact au.ne j h.ay (by decide) rfl
 have i:au w2 c _ 129:=(o.block c h.ay.lt (fun e=>v e.symm)).trans h.ay;have q:aj (fun b=>d.ownBlock=some b) f w2:=(aj.refl _ f).grown o (fun k e=>.inl e);have l:aj (fun b=>b=c) w2 (w2.setCell ⟨c,1,none⟩ (.slice (some ⟨g,0,none⟩) (n+1) cap)):=(aj.refl (fun b=>b=c) w2).setCell (p:=⟨c,1,none⟩) (.inl rfl) _;refine⟨av,.slice (some ⟨g,0,none⟩) (n+1) cap,⟨h.ge,i.set 1 _,?_,?_⟩,?_,?_⟩
 ·have w:=bK (t:=0) h.sQ q (fun b a=>by obtain⟨cs,j⟩:=aF h.ug a;exact⟨cs,_,j,by decide⟩);exact bK (t:=0) w l (fun b a=>by subst a;exact⟨_,_,i,by decide⟩)
 ·simp only[List.length_append,List.length_cons,List.length_nil,u,rD];exact bK (t:=0) hown l (fun b a=>by subst a;exact⟨_,_,i,by decide⟩)
 ·rintro b (rfl | a | a)
  ·exact .inl (.inl rfl)
  ·exact .inl (.inr (.inl a))
  ·simp only[Value.ownBlock,Option.some.injEq]at a;rcases s with e | e
   ·exact .inl (.inr (.inr (by rw[e,a])))
   ·right;omega
 ·exact (q.mono (fun b a=>.inr (.inr a))).trans (l.mono (fun b a=>.inl a))
def Rc.val(r:Rc):Value:=.agg #[II r.num,II r.kind,II r.t.num,.string r.t.sym,II r.t.af,II r.t.az,II r.t.lF,II r.t.dZ,II r.t.day]
theorem yN(base a:Nat)(A:List bD)(R:List Rc)(J:ByteArray)(av T:Value)(r:Rc)(w:World)(h:RV w base a A R J av T)(hlen:R.length<1000000000) :
 CT 140 #[PP a,r.val] w fun e w'=>e=.returned (.tuple #[])/\wC base a A (R++[{ r with num:=(R.length:Int)+1 }]) J av T w w':=by
 obtain⟨n,v⟩:=dQ R.length;have q:=h.ug;rw[v]at q hlen;obtain⟨G,H,y⟩:=aJ q;rw[y]at q;have F:=h.ay;have U:CC w a 1 (.slice G n H):=(F.cell 1).trans (by rw[<-y];rfl);have lv:=F.lt;have hge:=h.ge;have hmx:n+1<=maxLen:=by unfold maxLen;omega
 have lH:(n+1) * 80<=140737488355328:=by omega
 obtain⟨i0,z0,hi0,hz0,hz1,hz2,hz3⟩:=lX;obtain⟨acD,c,i,k,tp,tq,d,l,f⟩:=r;simp only[Rc.val];rw[v];obtain⟨m,s⟩:=gy (w.alloc (.cells #[II ((n:Int)+1),II c,II i,.string k,II tp,II tq,II d,II l,II f] 62));have u:aj aA w m:=by rw[s];exact (aj.refl aA w).alloc _
 have K:au m w.heap.size #[II ((n:Int)+1),II c,II i,.string k,II tp,II tq,II d,II l,II f] 62:=by rw[s];exact au.new _ _ _
 have Q:m.heap.size=w.heap.size+1:=by rw[s];simp
 have O:=aB q u (fun _ _ x=>x);have v1':CC m a 1 (.slice G n H):=u.cell U idd;obtain⟨t0,t1,t2,t3,t4,t5,t6,t7,t8⟩:=K.c9;obtain⟨I,t⟩:=gy ((m.alloc (.cells #[II ((n:Int)+1),II c,II i,.string k,II tp,II tq,II d,II l,II f] 62)).drew);have z:aj aA m I:=by rw[t];exact ((aj.refl aA m).alloc _).drew
 have P:=aB O z (fun _ _ x=>x);have S:I.heap.size=w.heap.size+2:=by rw[t];simp[Q]
 have hnews:∀j o,(Rc.cells ⟨(n:Int)+1,c,⟨i,k,tp,tq,d,l,f⟩⟩)[j]?=some o->I.cell? (Addr.add ⟨w.heap.size+1,0,none⟩ j)=some o:=by
  intro j o hj;have:=MW m ⟨(n:Int)+1,c,⟨i,k,tp,tq,d,l,f⟩⟩ j o hj;rw[Q]at this;rw[t];exact this
 have hone:∀o∈Rc.cells ⟨(n:Int)+1,c,⟨i,k,tp,tq,d,l,f⟩⟩,o.oneCell'=true:=by simp[Rc.cells,Value.oneCell']
 have L:=(h.ax u).ax z;obtain⟨HR,Z,CE,C,p,B,HW,HW1⟩:=Ha P hnews hone S L y s t;have hne:w.heap.size≠a:=by omega
 have hne':=hne.symm;obtain⟨X,Y⟩:=aZ (u.trans z) v;clear q h y O s K P hnews hone t S L u z v F;go_enter Tryz.func140,Tryz.ntmps140;go_wp2;rw[<-ae HW];clear U;go_region_law (first | (rw[<-ae HW1];refine step_append_lies _ rfl (.tmp 15) (.tmp 17) 34 rfl base 62 i0 z0 9 80 Tryz.underlying34 hi0 hz0 hz1 hz2 hz3 (by decide) (.slice G n H) n (gm R) rfl (ae HR) ⟨w.heap.size+1,0,none⟩ 1 1 (Rc.cells ⟨(n:Int)+1,c,⟨i,k,tp,tq,d,l,f⟩⟩) rfl rfl (ae Z) (ae CE) (by omega) hmx lH (by have:=ae C;omega) (w.heap.size+2) (ae C) ?_;intro g cap w2 N E M hlt;have Ec:=ai N;have W:=ai E;have V:=ai M;have D:au w2 a _ 129:=(E.block a (ae p).ay.lt (fun e=>by obtain⟨cs,hc⟩:=aF (ae p).ug (b:=a) (by rw[ae B];exact e.symm);exact au.ne hc (ae p).ay (by decide) rfl)).trans (ae p).ay;have v52:=D.cell 1;have f52:=D.frozen 1;simp at v52;clear N E M D))
 all_goals
  go_end0;have a1:=(ae p).Su (r:=⟨(n:Int)+1,c,⟨i,k,tp,tq,d,l,f⟩⟩) (ae Y) (ae Ec) (by rw[ae B];exact ae W) (by rw[ae B];exact ae V) (ae C);exact⟨rfl,wC.pre (ae X) a1⟩
theorem wF.turn{p:Nat->Nat}{oc i s:Nat}{B B':Bk}{om dG:Nat->Ord}{l c:List Ord}{sym:ByteArray}(h:wF p oc i s B om l sym)(H:c.length=l.length)
 (M:∀k,k<l.length->k≠i->ny (dG (p k))=ny (ak c k)) (N:ny { dG oc with aH:=0 }=ny (ak c i))
 (d:∀k,k<l.length->(ak c k).sym=(ak l k).sym/\(ak c k).side=(ak l k).side/\(ak c k).place=(ak l k).place/\0<=(ak c k).aH/\(0<(ak c k).aH->0<(ak l k).aH)/\(dG (p k)).place=(om (p k)).place)
 (L:∀x,Mem (B'.n s) (B'.h s) x↔∃k,k<l.length/\k≠i/\p k=x/\(ak l k).sym=sym/\(ak l k).side=(s:Int)/\0<(ak c k).aH):wF p oc i s B' dG c sym:=by
 refine⟨by rw[H];exact h.il,h.pi,fun a b E F=>h.inj a b (by omega) (by omega),fun k G=>M k (by omega),N,fun a b E F r t u o q=>?_,fun a b E F r t K u o q=>?_,fun x=>?_,?_,?_,fun k G=>?_,fun k G=>?_⟩
 ·obtain⟨e,a2,a3,a4,a5,C⟩:=d a (by omega);obtain⟨g,I,j,J,m,D⟩:=d b (by omega);rw[C,D,a3,j];exact h.place a b (by omega) (by omega) r t (by rw[<-e,<-g];exact u) (a5 o) (m q)
 ·obtain⟨e,a2,a3,a4,a5,C⟩:=d a (by omega);obtain⟨g,I,j,J,m,D⟩:=d b (by omega);rw[a3,j];exact h.wI a b (by omega) (by omega) r t K (by rw[<-e,<-g];exact u) (a5 o) (m q)
 ·rw[L x,H];constructor
  ·rintro⟨k,f,v,w,y,z,A⟩;obtain⟨e,a2,_⟩:=d k f;exact⟨k,f,v,w,by rw[e];exact y,by rw[a2];exact z,A⟩
  ·rintro⟨k,f,v,w,y,z,A⟩;obtain⟨e,a2,_⟩:=d k f;exact⟨k,f,v,w,by rw[<-e];exact y,by rw[<-a2];exact z,A⟩
 ·rw[(d i h.il).1];exact h.U6
 ·rw[(d i h.il).2.1];exact h.Na
 ·rw[(d k (by omega)).2.1];exact h.side k (by omega)
 ·exact (d k (by omega)).2.2.2.1
structure sK(p:Nat->Nat)(oc i s:Nat)(sym:ByteArray)(R0:List Rc)(YI f0:Int)(st:MS)(c:RC):Prop where
 oG:wF p oc i s st.B st.om c.S.l sym
 left:c.left=(st.om oc).aH
 tr:st.lg.tr=c.S.t
 tp:st.lg.tp=nJ R0 c.S.told
 day:st.lg.day=c.S.day
 lV:st.B.sym=sym
 filled:c.filled=(st.om oc).filled-f0
 count:c.count=st.tr-YI
 first:c.first=if st.tr=YI then 0 else YI+1
 le:YI<=st.tr
 g0:0<=f0
 g1:f0<=1000000000000000
theorem eX{l:List Ord}{k:Nat}{o:Ord}(b:k<l.length)(a:Nat):ak (l.set k o) a=if a=k then o else ak l a:=by
 by_cases e:a=k
 ·subst e;rw[if_pos rfl,dB b]
 ·rw[if_neg e,jZ (fun x=>e x.symm)]
theorem GY{B:Bk}{om:Nat->Ord}{o:iR}{s x:Nat}(h:dA B om o s=some x):0<B.n s/\x=B.h s 0:=by
 unfold dA at h;split at h
 ·simp at h
 ·split at h
  ·simp at h;exact⟨by omega,h.symm⟩
  ·simp at h
theorem sK.step{p:Nat->Nat}{oc i s:Nat}{sym:ByteArray}{X:List Rc}{z Z M:Int}{st:MS}{c:RC}(h:sK p oc i s sym X z Z st c)(hM:M<=1000000000000000)(hs:s<2)(iv:su oc s st)(hh:ed (fE st.om) (st.B.n s) (st.B.h s))(hq:∀x,(x=oc\/mJ st s x)->Qo M (st.om x))(hp:0<(st.om oc).aH){k:Nat}(hk:c.fJ i=some k)(htr:st.tr<1000000000)(acy:0<=z) :
 sK p oc i s sym X z Z (bF oc s st) (c.step i k):=by
 obtain⟨d,O,G,htp,N,D,hfil,hcnt,aae,hle,hf0,hf1⟩:=h;have L:=d.fJ hs hh;have hk':eP c.S.l (bI (ak c.S.l i))=some k:=hk;rw[hk']at L;simp only[Option.map_some]at L;obtain⟨P,hpk⟩:=GY L.symm;have hgk:=(d.JW hs k).1 (mM _ _ _ _ hk');obtain⟨r,H,k3,k4,k5,k6⟩:=hgk;have V:=d.il;have hsame:=fC (d.same k r H);obtain⟨e1,u,e3,e4,e5,e6,e7,e8,C,e10,e11,e12⟩:=hsame;have hself:=fC d.self;obtain⟨s1,s2,s3,s4,s5,s6,s7,s8,s9,s10,s11,s12⟩:=hself;simp only at s1 s2 s3 s4 s5 s6 s7 s8 s9 s10 s11 s12;have R:st.B.h s 0=p k:=hpk.symm;have hne:p k≠oc:=fun e=>H (d.inj k i r V (by rw[e,d.pi]))
 have m:Qo M (st.om (p k)):=hq _ (.inr ⟨0,P,hpk⟩);have f:Qo M (st.om oc):=hq _ (.inl rfl);have y:∀a,a<c.S.l.length->a≠k->p a≠p k:=fun a g e u=>e (d.inj a k g r u)
 have pni:∀a,a<c.S.l.length->a≠i->p a≠oc:=fun a g e u=>e (d.inj a i g V (by rw[u,d.pi]))
 unfold bF RC.step;rw[R,u];have ow:(st.om oc).aG=(ak c.S.l i).aG:=s2;rw[ow];by_cases E:(ak c.S.l k).aG=(ak c.S.l i).aG
 ·rw[if_pos E,if_pos E];have Q:aK st.om (p k) (fZ (st.om (p k))) oc=st.om oc:=ag _ _ (fun e=>hne e.symm);refine⟨?_,by simp only[Q];exact O,G,htp,N,D,by simp only[Q];exact hfil,hcnt,aae,hle,hf0,hf1⟩;simp only[RS.dN];refine d.turn (by simp) (fun a g v=>?_) ?_ (fun a g=>?_) (fun x=>?_)
  ·rw[eX r];by_cases e:a=k
   ·subst e;rw[ah,if_pos rfl];have:=d.same a g v;show fZ (ny (st.om (p a)))=ny _;rw[this]
    rfl
   ·rw[ag _ _ (y a g e),if_neg e];exact d.same a g v
  ·rw[Q,eX r,if_neg (fun e=>H e.symm)];exact d.self
  ·rw[eX r];by_cases e:a=k
   ·subst e;rw[if_pos rfl,ah];exact⟨rfl,rfl,rfl,Int.le_refl _,fun h=>absurd h (by simp),rfl⟩
   ·rw[if_neg e,ag _ _ (y a g e)];exact⟨rfl,rfl,rfl,d.aH a g,fun h=>h,rfl⟩
  ·rw[lJ iv.inj P x,d.mem x,R];constructor
   ·rintro⟨⟨a,o,a2,a3,a4,a5,j⟩,U⟩;refine⟨a,o,a2,a3,a4,a5,?_⟩;rw[eX r,if_neg (fun e=>by subst e;exact U a3.symm)];exact j
   ·rintro⟨a,o,a2,a3,a4,a5,j⟩;rw[eX r]at j;by_cases e:a=k
    ·rw[if_pos e]at j;simp at j
    ·rw[if_neg e]at j;exact⟨⟨a,o,a2,a3,a4,a5,j⟩,by rw[<-a3];exact y a o e⟩
 ·rw[if_neg E,if_neg E];obtain⟨q,F⟩:=dQ (min (st.om oc).aH (st.om (p k)).aH);have A:c.rX k=q:=by
   unfold RC.rX;rw[O,<-C];split <;> omega
  have q0:0<q:=by have:=m.o0;rw[C]at F;omega
  obtain⟨c1,c2,c3⟩:=f.fill (q:=q) (by omega) (by omega) hM;obtain⟨d1,J,d3⟩:=m.fill (q:=q) (by omega) (by omega) hM;have I:aT st.om oc (p k) oc=iY (st.om oc) q:=by unfold aT;rw[ag _ _ (fun e=>hne e.symm),ah,F]
  have W:aT st.om oc (p k) (p k)=iY (st.om (p k)) q:=by unfold aT;rw[ah,F]
  have tot:∀x,x≠oc->x≠p k->aT st.om oc (p k) x=st.om x:=fun x h1 h2=>by unfold aT;rw[ag _ _ h2,ag _ _ h1]
  have w:∀a,ak (c.S.gI i k q).l a=if a=i then { ak c.S.l i with filled:=wrap64 ((ak c.S.l i).filled+q) } else if a=k then { ak c.S.l k with aH:=wrap64 ((ak c.S.l k).aH-q),filled:=wrap64 ((ak c.S.l k).filled+q) } else ak c.S.l a:=fun a=>by
   simp only[RS.gI,RS.dN];rw[eX (by simpa using V),eX r]
  have T:MS.tr ⟨dO st.B st.om oc (p k) s,aT st.om oc (p k),(dD st.lg st.om oc (p k)).lC (jg st.B st.om oc (p k))⟩=st.tr+1:=by simp[MS.tr,Lg.lC,Lg.told,Lg.aC,Lg.aY,iw]
  have hT:(dD st.lg st.om oc (p k)).jo (jg st.B st.om oc (p k))=c.S.tr i k q:=by
   simp only[Lg.jo,jg,RS.tr,iw,rO];rw[G,N,D,e6,F,s4,e1,s1,d.U6]
  have hn0:0<=st.tr:=by unfold MS.tr;omega
  have w1:wrap64 (c.count+1)=c.count+1:=aU (by omega) (by omega);have hlen:(c.S.t.length:Int)=st.tr:=by unfold MS.tr;rw[G]
  refine⟨?_,?_,?_,?_,?_,?_,?_,?_,?_,?_,hf0,hf1⟩
  ·simp only[RS.gW];rw[A];refine d.turn (by simp[RS.gI,RS.dN]) (fun a g v=>?_) ?_ (fun a g=>?_) (fun x=>?_)
   ·rw[w a,if_neg v];by_cases e:a=k
    ·subst e;rw[if_pos rfl,W];have:=d.same a g v;show iY (ny (st.om (p a))) q=ny _;rw[this]
     rfl
    ·rw[if_neg e,tot _ (pni a g v) (y a g e)];exact d.same a g v
   ·rw[w i,if_pos rfl,I];have:=d.self;show ({ ny { st.om oc with aH:=0 } with filled:=wrap64 ((ny { st.om oc with aH:=0 }).filled+q) }:Ord)=ny _;rw[this]
    rfl
   ·rw[w a];by_cases K:a=i
    ·subst K;rw[if_pos rfl,d.pi,I];exact⟨rfl,rfl,rfl,d.aH a g,fun h=>h,rfl⟩
    ·rw[if_neg K];by_cases e:a=k
     ·subst e;rw[if_pos rfl,W];refine⟨rfl,rfl,rfl,?_,fun _=>k5,rfl⟩;have:=d1.o0;rw[J,C]at this;show 0<=wrap64 ((ak c.S.l a).aH-q);rw[aU (by have:=m.hi;have:=m.sum;have:=m.f0;have:=m.c0;have:=m.e0;omega) (by have:=m.hi;have:=m.sum;have:=m.f0;have:=m.c0;have:=m.e0;omega)];exact this
     ·rw[if_neg e,tot _ (pni a g K) (y a g e)];exact⟨rfl,rfl,rfl,d.aH a g,fun h=>h,rfl⟩
   ·have hko:(ak (c.S.gI i k q).l k).aH=(st.om (p k)).aH-q:=by
     rw[w k,if_neg H,if_pos rfl];show wrap64 ((ak c.S.l k).aH-q)=_;rw[<-C];exact J
    have hbase:∀x,(∃a,a<c.S.l.length/\a≠i/\p a=x/\(ak c.S.l a).sym=sym/\(ak c.S.l a).side=(s:Int)/\0<(ak (c.S.gI i k q).l a).aH)↔(Mem (st.B.n s) (st.B.h s) x/\(x=p k->0<(st.om (p k)).aH-q)):=fun x=>by
     rw[d.mem x];constructor
     ·rintro⟨a,o,a2,a3,a4,a5,j⟩;by_cases e:a=k
      ·subst e;rw[hko]at j;exact⟨⟨a,o,a2,a3,a4,a5,k5⟩,fun _=>j⟩
      ·rw[w a,if_neg a2,if_neg e]at j;exact⟨⟨a,o,a2,a3,a4,a5,j⟩,fun u=>absurd (by rw[a3];exact u) (y a o e)⟩
     ·rintro⟨⟨a,o,a2,a3,a4,a5,j⟩,U⟩;refine⟨a,o,a2,a3,a4,a5,?_⟩;by_cases e:a=k
      ·subst e;rw[hko];exact U a3.symm
      ·rw[w a,if_neg a2,if_neg e];exact j
    rw[hbase x];unfold dO;rw[W,J];by_cases Y:(st.om (p k)).aH-q=0
    ·rw[if_pos Y,lJ iv.inj P x,R];constructor
     ·rintro⟨a,b⟩;exact⟨a,fun e=>absurd e b⟩
     ·rintro⟨a,b⟩;exact⟨a,fun e=>by have:=b e;omega⟩
    ·rw[if_neg Y];constructor
     ·intro a;exact⟨a,fun _=>by omega⟩
     ·rintro⟨a,_⟩;exact a
  ·simp only[I,c2];rw[A,O];exact aU (by have:=f.hi;have:=f.sum;have:=f.f0;have:=f.c0;have:=f.e0;omega) (by have:=f.hi;have:=f.sum;have:=f.f0;have:=f.c0;have:=f.e0;omega)
  ·simp only[Lg.lC,Lg.told,Lg.aC,Lg.aY,iw,RS.gW];rw[G,A,<-hT]
  ·simp only[Lg.lC,Lg.told,Lg.aC,Lg.aY,RS.gW];rw[xZ,qQ,htp,A,<-hT]
  ·simp only[Lg.lC,Lg.told,Lg.aC,Lg.aY,rO,RS.gW];exact N
  ·show (dO st.B st.om oc (p k) s).sym=sym;unfold dO;split
   ·exact D
   ·exact D
  ·simp only[I,c3];rw[A,hfil];rw[aU (by have:=f.hi;have:=f.sum;have:=f.f0;have:=f.c0;have:=f.e0;have:=f.o0;omega) (by have:=f.hi;have:=f.sum;have:=f.f0;have:=f.c0;have:=f.e0;have:=f.o0;omega)];omega
  ·show wrap64 (c.count+1)=_-z;rw[T,w1];omega
  ·show (if wrap64 (c.count+1)=1 then (c.S.t.length:Int)+1 else c.first)=_;rw[T,w1,if_neg (c:=st.tr+1=z) (by omega)];by_cases e:st.tr=z
   ·rw[if_pos (by omega),hlen,e]
   ·rw[if_neg (by omega),aae,if_neg e]
  ·rw[T];omega
open Go.RowKit Go.Maps
theorem aaQ(tmps:Array Value)(H:Nat)(w:World)(a b c f e d:Int)(g:tmps.getD 4 undef=PP H)(i:tmps.getD 5 undef=II d)(m:au w H #[II a,II b,II c,II f,II e] 87) :
 (results Tryz.f64 tmps).run Tryz.prog w=.ok (.tuple #[.agg #[II a,II b,II c,II f,II e],II d]) w:=by
 obtain⟨c0,c1,j,k,l⟩:=m.c5;simp only[Array.getD_eq_getD_getElem?]at g i;simp[results,Tryz.results64,go_sem,g,i,c0,c1,j,k,l]
theorem N8(bv:Nat)(o:iR)(b:Int)(w:World)(i:b≠0)(j:∀f,aj aA w f->CT 111 #[PP bv,o.val] f fun e w'=>e=.returned (II b)/\aj aA f w') :
 CT 64 #[PP bv,o.val] w fun e w'=>e=.returned (.tuple #[.agg #[II 0,II 0,II 0,II 0,II 0],II b])/\aj aA w w':=by
 have q:(b != 0)=true:=by simp[i]
 obtain⟨d,c⟩:=gy (((w.alloc (.cells #[PP bv] 35)).alloc (.cells (Uj o) 52)).alloc (.cells bC 87));have g:aj aA w d:=by rw[c];exact (((aj.refl aA w).alloc _).alloc _).alloc _
 have n:au d (w.heap.size+2) bC 87:=by rw[c];exact au.MR w _ _ _ _
 have m:=ai (j d g);have r:w.heap.size<w.heap.size+1+1:=by omega
 have l:Hid (d=((w.alloc (.cells #[PP bv] 35)).alloc (.cells #[II o.id,II o.aG,.string o.sym,II o.side,II o.kind,II o.af,II o.az] 52)).alloc (.cells #[II 0,II 0,II 0,II 0,II 0] 87)):=c;clear j c i;simp only[iR.val];go_enter Tryz.func64,Tryz.ntmps64;go_wp2_with fail;rw[<-ae l];refine (ae m).mono ?_;rintro e w2 ⟨rfl,k⟩;have a:=k.ay n idd;obtain⟨y,z,A,B,C⟩:=a.c5;have s:=a.frozen 0;have t:=a.frozen 1;have u:=a.frozen 2;have v:=a.frozen 3;have x:=a.frozen 4;have D:=g.size;go_wp2;refine bodyPost_ret (aaQ _ (w.heap.size+2) _ 0 0 0 0 0 b rfl rfl ?_) rfl ⟨rfl,?_⟩
 ·exact ((((a.set 0 _).set 1 _).set 2 _).set 3 _).set 4 _
 ·exact (((((g.trans k).setCell (p:=⟨w.heap.size+2,0,none⟩) (.inr (by simp)) _).setCell (p:=⟨w.heap.size+2,1,none⟩) (.inr (by simp)) _).setCell (p:=⟨w.heap.size+2,2,none⟩) (.inr (by simp)) _).setCell (p:=⟨w.heap.size+2,3,none⟩) (.inr (by simp)) _).setCell (p:=⟨w.heap.size+2,4,none⟩) (.inr (by simp)) _
theorem X9{w:World}{base n c:Nat}{a:Option Addr}{R:List Rc}(h:w.ownsRow base 62 9 (.slice a n c) n (gm R))(m:R.length=n){i:Nat}{x:Rc}(d:R[i]?=some x):∃g,a=some ⟨g,0,none⟩/\g<w.heap.size/\∀j b,x.cells[j]?=some b->w.cell? ⟨g,i * 9+j,none⟩=some b:=by
 have l:=(List.getElem?_eq_some_iff.1 d).1;obtain⟨g,rfl,_⟩:=gQ h (by omega);refine⟨g,rfl,(h.lt g rfl).2,fun j b f=>?_⟩;have e:∀r:Rc,r.cells.length=9:=fun r=>rfl
 have k:j<9:=by have:=(List.getElem?_eq_some_iff.1 f).1;rw[e]at this;exact this
 rw[h.cellAt _ (by omega)];exact (ou Rc.cells 9 e R i j _ d k).trans f
theorem RV.line{w:World}{base a:Nat}{A:List bD}{R:List Rc}{g L':ByteArray}{av f:Value}(h:RV w base a A R g av f):RV (w.setCell ⟨a,2,none⟩ (.string L')) base a A R L' av f/\aj (RF a av f) w (w.setCell ⟨a,2,none⟩ (.string L')):=by
 have k:aj (fun b=>b=a) w (w.setCell ⟨a,2,none⟩ (.string L')):=(aj.refl (fun b=>b=a) w).setCell (p:=⟨a,2,none⟩) (.inl rfl) _;refine⟨⟨h.ge,h.ay.set 2 _,aB h.sQ k (fun b c e=>?_),aB h.ug k (fun b c e=>?_)⟩,k.mono (fun b e=>.inl e)⟩
 ·subst e;obtain⟨cs,d⟩:=aF h.sQ c;exact au.ne d h.ay (by decide) rfl
 ·subst e;obtain⟨cs,d⟩:=aF h.ug c;exact au.ne d h.ay (by decide) rfl
theorem xN:∀A:List bD,(uV A).length=A.length * 13
 | []=>rfl
 | a :: A=>by
   have b:=xN A;unfold uV at b ⊢;rw[List.flatMap_cons,List.length_append,b,zJ,List.length_cons];omega
theorem RV.cut{w:World}{base d k c:Nat}{a:Option Addr}{A:List bD}{x:bD}{R:List Rc}{t:ByteArray}{av f:Value}(h:RV w base d (A++[x]) R t av f)(j:A.length=k)(v:av=.slice a (k+1) c):RV (w.setCell ⟨d,0,none⟩ (.slice a k c)) base d A R t (.slice a k c) f/\aj (RF d av f) w (w.setCell ⟨d,0,none⟩ (.slice a k c))/\∀b,RF d (.slice a k c) f b->RF d av f b:=by
 have s:aj (fun b=>b=d) w (w.setCell ⟨d,0,none⟩ (.slice a k c)):=(aj.refl (fun b=>b=d) w).setCell (p:=⟨d,0,none⟩) (.inl rfl) _;have r:=h.sQ;rw[v,List.length_append,j]at r;obtain⟨D,y⟩:=r;obtain⟨g,cap,cs,e,l,i,u,m,n,o⟩:∃g cap cs,(Value.slice a (k+1) c)=.slice (some ⟨g,0,none⟩) (k+1) cap/\base<=g/\au w g cs 169/\k+1<=cap/\cap<=maxLen/\cs.size=cap * 13/\cs.toList.take ((k+1) * 13)=uV (A++[x]):=by
  rcases y with⟨_,e⟩ | ⟨g,cap,cs,e,l,i,u,m,n,o⟩
  ·simp at e
  ·exact⟨g,cap,cs,e,l,i,u,m,n,o⟩
 simp only[Value.slice.injEq]at e;obtain⟨rfl,_,rfl⟩:=e;have C:g≠d:=au.ne i h.ay (by decide);refine⟨⟨h.ge,h.ay.set 0 _,⟨?_,.inr ⟨g,c,cs,by rw[j],l,s.ay i C,by omega,m,n,?_⟩⟩,aB h.ug s (fun b q e=>?_)⟩,s.mono (fun b e=>.inl e),fun b q=>?_⟩
 ·exact xN A
 ·have:(cs.toList.take ((k+1) * 13)).take (k * 13)=uV A:=by
   rw[o];unfold uV;rw[List.flatMap_append];have B:(A.flatMap xG).length=k * 13:=by rw[<-j];exact xN A
   rw[<-B,List.take_left]
  rw[j,<-this,List.take_take,Nat.min_eq_left (by omega)]
 ·subst e;obtain⟨cs,z⟩:=aF h.ug q;exact au.ne z h.ay (by decide) rfl
 ·rcases q with e | e | e
  ·exact .inl e
  ·exact .inr (.inl (by rw[v];exact e))
  ·exact .inr (.inr e)
theorem Lp(base b:Nat)(R:List Rc)(f:ByteArray)(av g:Value)(w:World)(h:RV w base b [] R f av g) :
 CT 100 #[PP b] w fun e w'=>e=.returned (II 12)/\aj aA w w':=by
 obtain⟨a,c,d⟩:=aJ h.sQ;have v0:w.cell? ⟨b,0,none⟩=some (.slice a 0 c):=by rw[h.ay.cell 0];show some av=_;rw[d];rfl
 clear h d;go_enter Tryz.func100,Tryz.ntmps100;go_wp2;go_ret;exact⟨rfl,aj.refl aA w⟩
theorem BV(base b:Nat)(A:List bD)(R:List Rc)(g:ByteArray)(av p:Value)(S:RS)(sym:ByteArray)(s:Int)(w:World)(h:RV w base b A R g av p)(i:oN A S)(j:A.length<=1000000000)(k:S.sy.length<=1000)(l:jO S.sy sym=false) :
 CT 102 #[PP b,.string sym,II s] w fun e w'=>e=.returned (.tuple #[.slice none 0 0,II 6])/\aj aA w w':=by
 have d:=ai (iH base b A R g av p S w h i j);have f:Hid (∀a m,dF a w.heap.size w.heap.size S m->CT 142 #[PP w.heap.size,.string sym] a fun e w'=>e=.returned (.bool false)/\w'=a):=fun a m r=>by
  have:=ku _ _ S m sym a r k;rw[l]at this;exact this
 clear h i j k l;go_enter Tryz.func102,Tryz.ntmps102;go_wp2_with fail;refine (ae d).mono ?_;rintro e w2 ⟨rfl,⟨m,st⟩,o⟩;obtain⟨c,q⟩:=aZ (ae f w2 m st) o;clear st o d f;go_wp2_with fail;refine (ae c).mono ?_;rintro e t ⟨rfl,n⟩;rw[n];clear n t c;go_wp2;go_ret2;exact⟨rfl,ae q⟩
theorem IJ(base b:Nat)(A:List bD)(R:List Rc)(g:ByteArray)(av r:Value)(S:RS)(sym:ByteArray)(s:Int)(w:World)(h:RV w base b A R g av r)(k:oN A S)(l:A.length<=1000000000)(n:S.sy.length<=1000)(o:jO S.sy sym=true)(hs:jH s=false) :
 CT 102 #[PP b,.string sym,II s] w fun e w'=>e=.returned (.tuple #[.slice none 0 0,II 4])/\aj aA w w':=by
 have d:=ai (iH base b A R g av r S w h k l);have f:Hid (∀a m,dF a w.heap.size w.heap.size S m->CT 142 #[PP w.heap.size,.string sym] a fun e w'=>e=.returned (.bool true)/\w'=a):=fun a m u=>by
  have:=ku _ _ S m sym a u n;rw[o]at this;exact this
 unfold jH at hs;simp only[Bool.or_eq_false_iff]at hs;obtain⟨i,j⟩:=hs;have x:(s != 0)=true:=by simp[bne,i]
 have y:(s != 1)=true:=by simp[bne,j]
 clear i j;clear h k l n o;go_enter Tryz.func102,Tryz.ntmps102;go_wp2_with fail;refine (ae d).mono ?_;rintro e w2 ⟨rfl,⟨m,st⟩,q⟩;obtain⟨c,t⟩:=aZ (ae f w2 m st) q;clear st q d f;go_wp2_with fail;refine (ae c).mono ?_;rintro e v ⟨rfl,p⟩;rw[p];clear p v c;go_wp2;go_ret2;exact⟨rfl,ae t⟩
def RS.OT(S:RS)(k:Nat)(g:Tg):RS:={ S with t:=S.t.set k g }
theorem dF.Wi{w:World}{base l g c i j:Nat}{S:RS}{m:SM}{x:Tg}(h:dF w base l S m)(k:m.tv=.slice (some ⟨g,0,none⟩) S.t.length c)(v:S.t[i]?=some x)(z:j<8)(a:Value)(y:Tg)(A:DW y=(DW x).set j a) :
 dF (w.setCell ⟨g,i * 8+j,none⟩ a) base l (S.OT i y) m/\aj (SF l m) w (w.setCell ⟨g,i * 8+j,none⟩ a):=by
 have r:=h.dJ;rw[k]at r;have n:au w g _ 210:=(aF r (b:=g) rfl).choose_spec;have d:aj (fun b=>b=g) w (w.setCell ⟨g,i * 8+j,none⟩ a):=(aj.refl (fun b=>b=g) w).setCell (p:=⟨g,i * 8+j,none⟩) (.inl rfl) _;have ty:∀e,e≠210->∀b,b=g->∃c q,au w b c q/\q≠e:=fun e u b f=>by subst f;exact⟨_,_,n,fun x=>u x.symm⟩
 refine⟨⟨h.ge,d.ay h.ay (fun e=>au.ne h.ay n (by decide) e),bK (t:=0) h.mZ d (ty _ (by decide)),bK (t:=0) h.dV d (ty _ (by decide)),?_,bK (t:=0) h.lZ d (ty _ (by decide))⟩,d.mono (fun b f=>by subst f;exact iQ (by rw[k];rfl))⟩;have o:=(r.stored (i * 8+j) a).1;have s:(rP S.t).set (i * 8+j) a=rP (S.t.set i y):=zX DW 8 xh S.t i j _ y a v z A;rw[s]at o;rw[k];simp only[RS.OT,List.length_set];exact o
theorem KY(base i:Nat)(S:RS)(m:SM)(x:bD)(d:Int)(w:World)(h:dF w base i S m)(n:d≠0)(f:∀g,aj aA w g->CT 204 #[PP i,II x.a] g fun e w'=>e=.returned (II d)/\aj aA g w') :
 CT 171 #[PP i,x.val] w fun e w'=>e=.returned (II d)/\aj aA w w':=by
 obtain⟨o,s,⟨id,q,sym,side,p,af,az⟩,a,b,c,again⟩:=x;simp only[bD.val,bD.cells]at f ⊢;have j:=ai (f (w.alloc (.cells #[.int .u8 o,.string s,II id,II q,.string sym,II side,II p,II af,II az,II a,II b,II c,.bool again] 169)) ((aj.refl aA w).alloc _));have r:(d == 0)=false:=by simpa using n
 clear f h;go_enter Tryz.func171,Tryz.ntmps171;go_wp2_with fail;refine (ae j).mono ?_;rintro e w2 ⟨rfl,k⟩;have l:=ai k;clear k j;go_wp2;go_ret;exact⟨rfl,aj.trans ((aj.refl aA w).alloc _) (ae l)⟩
theorem Fg(base f k:Nat)(S:RS)(m:SM)(x:bD)(t:Tg)(w:World)(h:dF w base f S m)(H:S.t.length<=1000000000)(K:x.kind=107)(r:x.a-1=(k:Int))(l:S.t[k]?=some t)(I:kZ t S.day=0)(G:cZ x.b=false) :
 CT 171 #[PP f,x.val] w fun e w'=>e=.returned (II 4)/\aj aA w w':=by
 have p:Hid (∀d,aj aA w d->CT 204 #[PP f,II x.a] d fun e w'=>e=.returned (II 0)/\aj aA d w'):=fun d kW=>by
  have:=nK base f k S m x.a t d (h.ax kW) H r l;rw[I]at this;exact this
 have B:Hid (∀d,CT 198 #[II x.b] d fun e w'=>e=.returned (.bool false)/\w'=d):=fun d=>by
  have:=lQ x.b d;rw[G]at this;exact this
 obtain⟨Y,O,n⟩:=aJ h.dJ;obtain⟨g,rfl,_,lg,_,Q,R⟩:=h.Vg n l;have T:=(List.getElem?_eq_some_iff.1 l).1;obtain⟨N,F⟩:=dQ S.t.length;rw[F]at n T H;have v2:w.cell? ⟨f,2,none⟩=some (.slice (some ⟨g,0,none⟩) N O):=by rw[<-n];exact h.ay.cell 2
 have U:=h.ay.lt;obtain⟨W,s,⟨id,M,sym,side,L,af,az⟩,a,b,c,again⟩:=x;simp only at K r;subst K;simp only[bD.val,bD.cells]at p B ⊢;obtain rfl:a=(k:Int)+1:=by omega
 obtain⟨q,j⟩:=gy (w.alloc (.cells #[.int .u8 107,.string s,II id,II M,.string sym,II side,II L,II af,II az,II ((k:Int)+1),II b,II c,.bool again] 169));have u:aj aA w q:=by rw[j];exact (aj.refl aA w).alloc _
 have E:au q w.heap.size #[.int .u8 107,.string s,II id,II M,.string sym,II side,II L,II af,II az,II ((k:Int)+1),II b,II c,.bool again] 169:=by rw[j];exact au.new _ _ _
 obtain⟨z,C,y,A,D⟩:=mi (ae p q u) v2 E u j;clear h Q R l I G p r n F v2 E u j;go_enter Tryz.func171,Tryz.ntmps171;go_wp2_with fail;rw[<-ae D];refine (ae z).mono ?_;rintro e w2 ⟨rfl,v⟩;have o:=(ae A).trans v;have v2:CC w2 f 2 (.slice (some ⟨g,0,none⟩) N O):=o.cell (ae C) idd;have i:=v.ay (ae y) idd;have Z:CC w2 w.heap.size 0 (.int .u8 107):=i.cell 0;have x9:CC w2 w.heap.size 9 (II ((k:Int)+1)):=i.cell 9;have x10:CC w2 w.heap.size 10 (II b):=i.cell 10;have lb:=i.lt;have X:f<w2.heap.size:=Nat.lt_of_lt_of_le U o.size;have P:=ai o;clear o v i z y A D C;go_wp2;go_quiet (fail);go_wp2_with fail;refine (ae B _).mono ?_;rintro e V ⟨rfl,J⟩;rw[J];clear J V;go_wp2;go_ret;exact⟨rfl,(ae P).drewN _⟩
end Go.Proofs.YtigaphnafnpfnaaGreatDoor
