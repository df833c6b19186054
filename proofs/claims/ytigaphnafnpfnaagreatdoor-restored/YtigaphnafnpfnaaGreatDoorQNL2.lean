import Derived.Test.YtigaphnafnpfnaaGreatDoorQVB2
import Derived.Laws.OwnMore
import Derived.Shelf.Small.Strs
import Derived.Shelf.Strconv.Atoi
import Derived.Shelf.Strings.LastIndex
import Derived.Shelf.Strings.Prefix
import Derived.Shelf.Strings.Split
set_option linter.unusedVariables false
set_option linter.unusedSimpArgs false
set_option maxHeartbeats 8000000
set_option maxRecDepth 100000
namespace Go.Proofs.YtigaphnafnpfnaaGreatDoor
open Go.RowKit
attribute [local go_sem ↓] Go.wp_at_zero Go.wp_at_succ
theorem FK(w:World)(ty:TypeId)(a b:Option Addr)(n c m k:Nat):(Builtin.append_ #[109,108] ty #[.slice a n c,.slice b m k]).run Tryz.prog w=(Builtin.append_ #[109,109] ty #[.slice a n c,.slice b m k]).run Tryz.prog w:=by kernel_rfl
theorem abQ:∃i,Tryz.prog.info? 1=some i/\i.zero=some .nilFunc/\i.size=1/\i.bytes=8:=by
 have h:(Tryz.prog.info? 1).map (fun i=>(i.zero,i.size,i.bytes))=some (some .nilFunc,1,8):=by kernel_rfl
 cases hi:Tryz.prog.info? 1 with
 | none=>rw[hi]at h;simp at h
 | some i=>rw[hi]at h;simp at h;exact⟨i,rfl,h.1,h.2.1,h.2.2⟩
theorem Ub:∃i,Tryz.prog.info? 109=some i/\i.zero=some (.slice none 0 0)/\i.size=1/\i.bytes=24:=by
 have h:(Tryz.prog.info? 109).map (fun i=>(i.zero,i.size,i.bytes))=some (some (.slice none 0 0),1,24):=by kernel_rfl
 cases hi:Tryz.prog.info? 109 with
 | none=>rw[hi]at h;simp at h
 | some i=>rw[hi]at h;simp at h;exact⟨i,rfl,h.1,h.2.1,h.2.2⟩
theorem Ac{ops:Array Oper}{o:Oper}{a:Act}{K:Act->World->Prop}{Q:Exit->Act->World->Prop}{E:Prop}{w:World}(hgd:o.guard=none)(s x:Operand)
 (ho:o.op=.call { callee:=.builtin .append,args:=#[s,x],argTypes:=#[109,108] })
 (sa:Option Addr) (n sc:Nat) (xs:List Value) (hs:a.eval s=.slice sa n sc) (hown:w.ownsRow 0 1 1 (.slice sa n sc) n xs)
 (ad:Addr) (m c:Nat) (news:List Value) (hx:a.eval x=.slice (some ad) m c) (hl:news.length=m * 1) (hnews:∀j u,news[j]?=some u->w.cell? (ad.add j)=some u) (h1:∀u∈news,u.oneCell'=true)
 (hm:0<m) (hb:n+m<=2000000000) (H:Nat) (hH:w.heap.size=H)
 (h:∀g cap w',w'.ownsRow 0 1 1 (.slice (some ⟨g,0,none⟩) (n+m) cap) (n+m) (xs++news)->w.grownBy w' (Value.slice sa n sc).ownBlock->((Value.slice sa n sc).ownBlock=some g\/g=H)->g<w'.heap.size->K (a.put o.dst (.slice (some ⟨g,0,none⟩) (n+m) cap)) w') :
 if Region.wanted o (yielded ops a.tmps)=true then Oper.wp Tryz.prog o a w K Q else E:=by
 have hw:Region.wanted o (yielded ops a.tmps)=true:=by simp[Region.wanted,hgd]
 rw[if_pos hw];obtain⟨i,hi,hz,hsz,hby⟩:=abQ;obtain⟨g,cap,w',hr,h2,h3,h4,h5⟩:=run_append_lies (P:=Tryz.prog) w 109 o.type 0 1 i .nilFunc 1 8 Tryz.underlying109 hi hz hsz hby rfl (by decide) (.slice sa n sc) n xs hown ad m c news hl hnews h1 hm (by unfold maxLen;omega) (by omega) (by omega) H hH;rw[<-FK]at hr;unfold Oper.wp execOp;simp only[ho,resolve,invoke,builtin,Sem.run_bind,Sem.run_pure,Result.andThen_ok,List.map_toArray,List.map_cons,List.map_nil,hs,hx,hr];exact h g cap w' h2 h3 h4 h5
def Lg.begun(G:Lg):Lg:={ G with na:=G.na+1,nt:=[],js:=G.js++[G.pl] }
def Lg.Sj(G:Lg):Lg:={ G with na:=G.na+1,nt:=[] }
def Lg.aX(G:Lg)(ds:List dY):Lg:={ G with nt:=G.nt++ds }
theorem JI{w:World}{base e size n:Nat}{v:Value}{xs:List Value}(h:w.ownsRow base e size v n xs):∃a c,v=.slice a n c:=yT h
theorem fU.Xg{w1 w2:World}{bv bm bo:Nat}{G:Lg}{m:Lm}{q:Nat}(h:fU w1 bv bm bo G m q)(hq:q<=G.ud+G.na+1){n H g cap:Nat}(hn:G.na=n)(hown:w2.ownsRow 0 109 1 (.slice (some ⟨g,0,none⟩) (n+1) cap) (n+1) (m.ac.map Prod.fst++[.slice none 0 0]))(hgrow:w1.grownBy w2 m.av.ownBlock)(hat:m.av.ownBlock=some g\/g=H)(hH:w1.heap.size=H) :
 bG (w2.setCell ⟨bv,5,none⟩ (.slice (some ⟨g,0,none⟩) (n+1) cap)) bv bm bo G.Sj { m with av:=.slice (some ⟨g,0,none⟩) (n+1) cap,ac:=m.ac++[(.slice none 0 0,[])] } /\
  (∀b,Lm.F { m with av:=.slice (some ⟨g,0,none⟩) (n+1) cap,ac:=m.ac++[(.slice none 0 0,[])] } b->m.F b\/H<=b)/\aj (fun b=>b=bv\/m.av.ownBlock=some b) w1 (w2.setCell ⟨bv,5,none⟩ (.slice (some ⟨g,0,none⟩) (n+1) cap)):=by
 have hb2:aA w2 bv (sU bm bo m G.day) 100:=(hgrow.block bv h.dC.lt (fun e=>h.L6 (jZ e.symm))).trans h.dC;have k2:aj (fun b=>b=bv\/m.av.ownBlock=some b) w1 (w2.setCell ⟨bv,5,none⟩ (.slice (some ⟨g,0,none⟩) (n+1) cap)) :=
  ((aj.refl _ w1).grown hgrow (fun k e=>.inl (.inr e))).setCell (p:=⟨bv,5,none⟩) (.inl (.inl rfl)) _
 have k3:aj (fun b=>b=bv) w2 (w2.setCell ⟨bv,5,none⟩ (.slice (some ⟨g,0,none⟩) (n+1) cap)):=(aj.refl (fun b=>b=bv) w2).setCell (p:=⟨bv,5,none⟩) (.inl rfl) _;have no:∀{b c t},aA w1 b c t->t≠100->t≠109->¬(b=bv\/m.av.ownBlock=some b):=by
  rintro b c t hb h0 h1 (e | e)
  ·exact aA.ne hb h.dC h0 e
  ·exact bY h.aP.act.row e hb (fun e=>h1 e.symm) rfl
 refine⟨⟨hb2.set 5 _,?_⟩,?_,k2⟩
 ·refine⟨aI h.aP.jJ k2 ?_,aI h.aP.iO k2 ?_,h.aP.len,fun i b g hi hg=>k2.aF (h.aP.aF i b g hi hg) (no (h.aP.aF i b g hi hg) (by decide) (by decide)),h.aP.nodup,⟨?_,?_,?_,?_,?_⟩,aI h.aP.kV k2 ?_,Nat.le_trans h.aP.jb.1 (Nat.mul_le_mul_left 300 hq),h.aP.jb.2⟩
  ·intro b hb;obtain⟨cs,hc⟩:=bK h.aP.jJ hb;exact no hc (by decide) (by decide)
  ·intro b hb;obtain⟨cs,hc⟩:=bK h.aP.iO hb;exact no hc (by decide) (by decide)
  ·have hl:(m.ac++[((.slice none 0 0:Value),([]:List Value))]).length=n+1:=by rw[List.length_append,h.aP.act.len,hn];rfl
   simp only[hl,List.map_append,List.map_cons,List.map_nil];exact aI hown k3 (fun b hb e=>bY hown hb hb2 (by decide) e)
  ·intro a ha;rcases List.mem_append.1 ha with ha | ha
   ·refine aI (h.aP.act.own a ha) k2 (fun b hb=>?_);obtain⟨cs,hc⟩:=bK (h.aP.act.own a ha) hb;exact no hc (by decide) (by decide)
   ·simp only[List.mem_singleton]at ha;subst ha;exact World.ownsRow_nil _ _ _ _
  ·rw[List.filterMap_append]
   simpa [Value.ownBlock] using h.aP.act.dis
  ·show _=G.na+1;rw[List.length_append,h.aP.act.len];rfl
  ·intro a ha;rw[List.getLast?_append]at ha;simp at ha;rw[<-ha]
   rfl
  ·intro b hb;obtain⟨cs,hc⟩:=bK h.aP.kV hb;exact no hc (by decide) (by decide)
 ·rintro b (hb | hb | hb | hb | ⟨a,ha,hb⟩)
  ·exact .inl (.inl hb)
  ·exact .inl (.inr (.inl hb))
  ·exact .inl (lN hb)
  ·simp only[Value.ownBlock,Option.some.injEq]at hb;rcases hat with e | e
   ·exact .inl (jZ (by rw[e,hb]))
   ·right;omega
  ·rcases List.mem_append.1 ha with ha | ha
   ·exact .inl (QF ⟨a,ha,hb⟩)
   ·simp only[List.mem_singleton]at ha;subst ha;simp[Value.ownBlock]at hb
theorem Vg{α:Type}(l:List α)(x y:α):(l++[x]).set l.length y=l++[y]:=by
 induction l with
 | nil=>rfl
 | cons a l ih=>simp only[List.cons_append,List.length_cons,List.set_cons_succ,ih]
theorem fU.Tt{w1 w2:World}{bv bm bo:Nat}{G:Lg}{m:Lm}(h:bG w1 bv bm bo G m){init:List (Value × List Value)}{hd:Value}{fs news:List Value}{ds:List dY}{n k ga RV g cap c H:Nat}(hac:m.ac=init++[(hd,fs)])(hav:m.av=.slice (some ⟨ga,0,none⟩) n RV)(hn:G.na=n)(hk:k+1=n)
 (hown:w2.ownsRow 0 1 1 (.slice (some ⟨g,0,none⟩) (fs.length+c) cap) (fs.length+c) (fs++news)) (hgrow:w1.grownBy w2 hd.ownBlock) (hat:hd.ownBlock=some g\/g=H) (hH:w1.heap.size=H) (hds:ds.length=c) :
 bG (w2.setCell ⟨ga,k,none⟩ (.slice (some ⟨g,0,none⟩) (fs.length+c) cap)) bv bm bo (G.aX ds) { m with ac:=init++[(.slice (some ⟨g,0,none⟩) (fs.length+c) cap,fs++news)] } /\
  (∀b,Lm.F { m with ac:=init++[(.slice (some ⟨g,0,none⟩) (fs.length+c) cap,fs++news)] } b->m.F b\/H<=b)/\aj (fun b=>gY m.av m.ac b) w1 (w2.setCell ⟨ga,k,none⟩ (.slice (some ⟨g,0,none⟩) (fs.length+c) cap)) /\
  (∀b,gY m.av (init++[(.slice (some ⟨g,0,none⟩) (fs.length+c) cap,fs++news)]) b->gY m.av m.ac b\/H<=b):=by
 have hA:=h.aP.act;have hlast:(hd,fs)∈m.ac:=by rw[hac];simp
 have hga:m.av.ownBlock=some ga:=by rw[hav];rfl
 have hlen:init.length=k:=by
  have:=hA.len;rw[hac,hn,List.length_append]at this;simp at this;omega
 have hne:hd.ownBlock≠some ga:=fun e=>by
  obtain⟨cs,hc⟩:=bK (hA.own _ hlast) e;exact bY hA.row hga hc (by decide) rfl
 have k2:aj (fun b=>b=ga\/hd.ownBlock=some b) w1 (w2.setCell ⟨ga,k,none⟩ (.slice (some ⟨g,0,none⟩) (fs.length+c) cap)) :=
  ((aj.refl _ w1).grown hgrow (fun k e=>.inl (.inr e))).setCell (p:=⟨ga,k,none⟩) (.inl (.inl rfl)) _
 have k3:aj (fun b=>b=ga) w2 (w2.setCell ⟨ga,k,none⟩ (.slice (some ⟨g,0,none⟩) (fs.length+c) cap)):=(aj.refl (fun b=>b=ga) w2).setCell (p:=⟨ga,k,none⟩) (.inl rfl) _;have no:∀{b c t},aA w1 b c t->t≠109->t≠1->¬(b=ga\/hd.ownBlock=some b):=by
  rintro b c t hb h0 h1 (e | e)
  ·exact bY hA.row hga hb (fun e=>h0 e.symm) e.symm
  ·exact bY (hA.own _ hlast) e hb (fun e=>h1 e.symm) rfl
 have hdis:=hA.dis;rw[hac,List.filterMap_append]at hdis;have abb:∀a,a∈init->∀b,a.1.ownBlock=some b->hd.ownBlock≠some b:=by
  intro a ha b hb e;have h2:=(List.nodup_append.1 hdis).2.2;exact h2 b (List.mem_filterMap.2 ⟨a,ha,hb⟩) b (by simp[e]) rfl
 have ltI:∀a,a∈init->∀b,a.1.ownBlock=some b->b<w1.heap.size:=by
  intro a ha b hb;obtain⟨cs,hc⟩:=bK (hA.own a (by rw[hac];exact List.mem_append.2 (.inl ha))) hb;exact hc.lt
 have aa5:∀b,gY m.av (init++[(.slice (some ⟨g,0,none⟩) (fs.length+c) cap,fs++news)]) b->gY m.av m.ac b\/H<=b:=by
  rintro b (hb | ⟨a,ha,hb⟩)
  ·exact .inl (.inl hb)
  ·rcases List.mem_append.1 ha with ha | ha
   ·exact .inl (.inr ⟨a,by rw[hac];exact List.mem_append.2 (.inl ha),hb⟩)
   ·simp only[List.mem_singleton]at ha;subst ha;simp only[Value.ownBlock,Option.some.injEq]at hb;subst hb;rcases hat with e | e
    ·exact .inl (.inr ⟨_,hlast,e⟩)
    ·right;omega
 refine⟨⟨k2.aF h.dC (no h.dC (by decide) (by decide)),?_⟩,?_,k2.mono (fun b hb=>by
  rcases hb with e | e
  ·subst e;exact .inl hga
  ·exact .inr ⟨_,hlast,e⟩),?_⟩
 ·refine⟨aI h.aP.jJ k2 ?_,aI h.aP.iO k2 ?_,h.aP.len,fun i b g hi hg=>k2.aF (h.aP.aF i b g hi hg) (no (h.aP.aF i b g hi hg) (by decide) (by decide)),h.aP.nodup,⟨?_,?_,?_,?_,?_⟩,aI h.aP.kV k2 ?_,h.aP.jb⟩
  ·intro b hb;obtain⟨cs,hc⟩:=bK h.aP.jJ hb;exact no hc (by decide) (by decide)
  ·intro b hb;obtain⟨cs,hc⟩:=bK h.aP.iO hb;exact no hc (by decide) (by decide)
  ·have hr:=hA.row;rw[hA.len,hn]at hr;have hl:(init++[((.slice (some ⟨g,0,none⟩) (fs.length+c) cap:Value),fs++news)]).length=n:=by rw[List.length_append,hlen];exact hk
   rcases hr.2 with⟨e,_⟩ | ⟨g',cap',cur,e,h0,hg,h1,h2,h3,h4⟩
   ·rw[hav]at e;simp at e
   ·rw[hav]at e;simp only[Value.slice.injEq,Option.some.injEq,Addr.mk.injEq]at e;obtain⟨⟨e1,_⟩,_,e2⟩:=e;subst e1 e2;have hb2:aA w2 ga cur 109:=(hgrow.block ga (aA.lt hg) (fun e=>hne e.symm)).trans hg;have hb3:=hb2.set k (.slice (some ⟨g,0,none⟩) (fs.length+c) cap);rw[hl];refine⟨by simp only[List.length_map,hl];omega,.inr ⟨ga,RV,_,hav,h0,hb3,h1,h2,by rw[Array.size_setIfInBounds];exact h3,?_⟩⟩;rw[Array.toList_setIfInBounds,List.take_set,h4,hac];simp only[List.map_append,List.map_cons,List.map_nil];have:k=(init.map Prod.fst).length:=by rw[List.length_map,hlen]
    rw[this];exact Vg _ _ _
  ·intro a ha;rcases List.mem_append.1 ha with ha | ha
   ·have hm:a∈m.ac:=by rw[hac];exact List.mem_append.2 (.inl ha)
    refine aI (hA.own a hm) k2 ?_;rintro b hb (e | e)
    ·obtain⟨cs,hc⟩:=bK (hA.own a hm) hb;subst e;exact bY hA.row hga hc (by decide) rfl
    ·exact abb a ha b hb e
   ·simp only[List.mem_singleton]at ha;subst ha;have e:(fs++news).length=fs.length+c:=by have:=hown.1;omega
    simp only[e];refine aI hown k3 (fun b hb e=>?_);simp only[Value.ownBlock,Option.some.injEq]at hb;subst hb;subst e;obtain⟨cs,hc⟩:=bK hA.row hga;have hb2:aA w2 g cs 109:=(hgrow.block g hc.lt (fun e=>hne e.symm)).trans hc;exact bY hown rfl hb2 (by decide) rfl
  ·rw[List.filterMap_append,List.nodup_append];refine⟨(List.nodup_append.1 hdis).1,by simp[Value.ownBlock],?_⟩;intro x hx y hy e;simp[Value.ownBlock]at hy;subst hy;subst e;obtain⟨a,ha,hb⟩:=List.mem_filterMap.1 hx;rcases hat with e | e
   ·exact abb a ha _ hb e
   ·have:=ltI a ha _ hb;omega
  ·have:init.length+1=n:=by omega
   simpa [hn,Lg.aX] using this
  ·intro a ha;simp at ha;subst ha;have h1:=hA.last (hd,fs) (by rw[hac];simp);simp only at h1;have:=hown.1;simp only[Lg.aX,List.length_append]at this ⊢;omega
  ·intro b hb;obtain⟨cs,hc⟩:=bK h.aP.kV hb;exact no hc (by decide) (by decide)
 ·rintro b (hb | hb | hb | hb)
  ·exact .inl (.inl hb)
  ·exact .inl (.inr (.inl hb))
  ·exact .inl (lN hb)
  ·exact (aa5 b hb).imp_left (fun h=>DR h)
 ·exact aa5
theorem zM{α:Type}:∀l:List α,0<l.length->∃i x,l=i++[x]
 | [],h=>absurd h (by simp)
 | [x],_=>⟨[],x,rfl⟩
 | a :: b :: l,_=>by
   obtain⟨i,x,e⟩:=zM (b :: l) (by simp);exact⟨a :: i,x,by rw[e];rfl⟩
def Lg.iP(G:Lg)(t:Tr):Tr:={ t with num:=(G.tr.length:Int)+1,day:=G.day }
def Lg.aC(G:Lg)(t:Tr):Lg:={ G with tr:=G.tr++[⟨G.iP t,true⟩] }
def Lg.jT(G:Lg)(t:Tr):Lg:=((G.aC t).told 1 (G.iP t)).aX [.iZ (G.iP t)]
theorem xH:∃i,Tryz.prog.info? 103=some i/\i.zero=some (.pointer none)/\i.size=1/\i.bytes=8:=by
 have h:=aai;cases hi:Tryz.prog.info? 103 with
 | none=>rw[hi]at h;simp at h
 | some i=>rw[hi]at h;simp at h;exact⟨i,rfl,h.1,h.2.1,h.2.2⟩
theorem fU.KY{w1 w2:World}{bv bm bo:Nat}{G:Lg}{m:Lm}(h:bG w1 bv bm bo G m){n H g cap nb:Nat}{x:Tg}(hn:G.tr.length=n)(hnb:aA w1 nb x.cells 105)(hnew:¬nb∈m.tb)(hown:w2.ownsRow 0 103 1 (.slice (some ⟨g,0,none⟩) (n+1) cap) (n+1) (m.tb.map dD++[dD nb]))(hgrow:w1.grownBy w2 m.tv.ownBlock)(hat:m.tv.ownBlock=some g\/g=H)(hH:w1.heap.size=H) :
 bG (w2.setCell ⟨bv,2,none⟩ (.slice (some ⟨g,0,none⟩) (n+1) cap)) bv bm bo { G with tr:=G.tr++[x] } { m with tv:=.slice (some ⟨g,0,none⟩) (n+1) cap,tb:=m.tb++[nb] } /\
  (∀b,Lm.F { m with tv:=.slice (some ⟨g,0,none⟩) (n+1) cap,tb:=m.tb++[nb] } b->m.F b\/b=nb\/H<=b)/\aj (fun b=>b=bv\/m.tv.ownBlock=some b) w1 (w2.setCell ⟨bv,2,none⟩ (.slice (some ⟨g,0,none⟩) (n+1) cap)):=by
 have hb2:aA w2 bv (sU bm bo m G.day) 100:=(hgrow.block bv h.dC.lt (fun e=>h.L6 (.inl e.symm))).trans h.dC;have k2:aj (fun b=>b=bv\/m.tv.ownBlock=some b) w1 (w2.setCell ⟨bv,2,none⟩ (.slice (some ⟨g,0,none⟩) (n+1) cap)) :=
  ((aj.refl _ w1).grown hgrow (fun k e=>.inl (.inr e))).setCell (p:=⟨bv,2,none⟩) (.inl (.inl rfl)) _
 have k3:aj (fun b=>b=bv) w2 (w2.setCell ⟨bv,2,none⟩ (.slice (some ⟨g,0,none⟩) (n+1) cap)):=(aj.refl (fun b=>b=bv) w2).setCell (p:=⟨bv,2,none⟩) (.inl rfl) _;have lY:∀{b c},aA w1 b c 105->¬(b=bv\/m.tv.ownBlock=some b):=by
  rintro b c hbk (e | e)
  ·exact aA.ne hbk h.dC (by decide) e
  ·exact bY h.aP.jJ e hbk (by decide) rfl
 refine⟨⟨hb2.set 2 _,?_⟩,?_,k2⟩
 ·refine⟨?_,aI h.aP.iO k2 ?_,by simp[h.aP.len],fun i b g hi hg=>?_,?_,h.aP.act.aC k2 ?_,aI h.aP.kV k2 ?_,h.aP.jb⟩
  ·simp only[List.length_append,List.length_cons,List.length_nil,hn,List.map_append,List.map_cons,List.map_nil];exact aI hown k3 (fun b hb e=>bY hown hb hb2 (by decide) e)
  ·rintro b hb (e | e)
   ·exact bY h.aP.iO hb h.dC (by decide) e
   ·obtain⟨cs,hc⟩:=bK h.aP.jJ e;exact bY h.aP.iO hb hc (by decide) rfl
  ·simp only at hi hg;by_cases e:i<m.tb.length
   ·rw[List.getElem?_append_left e]at hi;rw[List.getElem?_append_left (by rw[<-h.aP.len];exact e)]at hg;have hbk:=h.aP.aF i b g hi hg;exact k2.aF hbk (lY hbk)
   ·rw[List.getElem?_append_right (by omega)]at hi;rw[List.getElem?_append_right (by rw[<-h.aP.len];omega),<-h.aP.len]at hg;have e0:i-m.tb.length=0:=by
     rcases Nat.eq_zero_or_pos (i-m.tb.length) with e0 | e0
     ·exact e0
     ·rw[List.getElem?_eq_none (by simp;omega)]at hi;simp at hi
    rw[e0]at hi hg;simp at hi hg;subst hi;subst hg;exact k2.aF hnb (lY hnb)
  ·exact List.nodup_append.2 ⟨h.aP.nodup,by simp,by rintro a ha b hb rfl;simp at hb;subst hb;exact hnew ha⟩
  ·intro b hb;obtain⟨cs,t,hc,ht⟩:=h.aP.act.gK hb;rintro (e | e)
   ·exact aA.ne hc h.dC (by rcases ht with rfl | rfl <;> decide) e
   ·exact bY h.aP.jJ e hc (by rcases ht with rfl | rfl <;> decide) rfl
  ·rintro b hb (e | e)
   ·exact bY h.aP.kV hb h.dC (by decide) e
   ·obtain⟨cs,hc⟩:=bK h.aP.jJ e;exact bY h.aP.kV hb hc (by decide) rfl
 ·rintro b (hb | hb | hb | hb)
  ·simp only[Value.ownBlock,Option.some.injEq]at hb;rcases hat with e | e
   ·exact .inl (.inl (by rw[e,hb]))
   ·right;right;omega
  ·exact .inl (.inr (.inl hb))
  ·simp only[List.mem_append,List.mem_singleton]at hb;rcases hb with hb | hb
   ·exact .inl (lN hb)
   ·exact .inr (.inl hb)
  ·exact .inl (DR hb)
def ry(N:Nat)(h:Nat->Nat):Prop:=∀a b,a<N->b<N->h a=h b->a=b
theorem ry.swap{N:Nat}{h:Nat->Nat}(hi:ry N h){i j:Nat}(h1:i<N)(h2:j<N):ry N (sw h i j):=by
 intro a b ha hb e;have key:∀c,c<N->∃d,d<N/\sw h i j c=h d/\(c=i->d=j)/\(c≠i->c=j->d=i)/\(c≠i->c≠j->d=c):=by
  intro c hc;by_cases e1:c=i
  ·subst e1;exact⟨j,h2,Hm _ _ _,fun _=>rfl,fun h=>absurd rfl h,fun h=>absurd rfl h⟩
  ·by_cases e2:c=j
   ·subst e2;exact⟨i,h1,NW _ _ _,fun h=>absurd h e1,fun _ _=>rfl,fun _ h=>absurd rfl h⟩
   ·exact⟨c,hc,ku e1 e2,fun h=>absurd h e1,fun _ h=>absurd h e2,fun _ _=>rfl⟩
 obtain⟨d,hd,ed,d1,d2,d3⟩:=key a ha;obtain⟨d',hd',ed',d1',d2',d3'⟩:=key b hb;rw[ed,ed']at e;have:=hi d d' hd hd' e;by_cases a1:a=i <;> by_cases a2:a=j <;> by_cases b1:b=i <;> by_cases b2:b=j <;> simp_all <;> omega
theorem ry.up{lt:Nat->Nat->Bool}{N:Nat}{h:Nat->Nat}{j:Nat}(hi:ry N h)(hj:j<N):ry N (vF lt h j):=by
 fun_induction vF lt h j with
 | case1=>exact hi
 | case3=>exact hi
 | case2 h j hj0 hl ih=>exact ih (hi.swap (by omega) hj) (by omega)
theorem ry.down{lt:Nat->Nat->Bool}{n N:Nat}{h:Nat->Nat}{i:Nat}(hi:ry N h)(hN:n<=N):ry N (eF lt n h i).1:=by
 fun_induction eF lt n h i with
 | case1 h i hn _ hl ih =>
   have:=qI lt n h i hn;exact ih (hi.swap (by omega) (by omega))
 | case2=>exact hi
 | case3=>exact hi
theorem ry.qp{lt:Nat->Nat->Bool}{n:Nat}{h:Nat->Nat}{i:Nat}(hi:ry (n+1) h)(hin:i<=n):ry (n+1) (eQ lt h n i):=by
 unfold eQ;split
 ·exact hi
 ·split
  ·exact (hi.swap (by omega) (by omega)).down (by omega)
  ·exact ((hi.swap (by omega) (by omega)).down (by omega)).up (by omega)
theorem jk.inj{w:World}{s:Option Addr}{n cap:Nat}{h:Nat->Nat}{om:Nat->Ord}(hs:jk w s n cap h om):ry n h:=by
 intro a b ha hb e;rcases hs with⟨_,rfl,_⟩ | ⟨ab,_,hs⟩
 ·omega
 ·exact hs.inj ha hb e
structure Mk(w:World)(bb:Nat)(B:Bk)(om:Nat->Ord)(L:Nat->Prop):Prop where
 aY:cO w bb B om
 bz:∀b,L b->∃ix,df w b (om b) ix
 mem:∀s,s<2->∀k,k<B.n s->L (B.h s k)
theorem Mk.leave{w w':World}{bb:Nat}{B:Bk}{om:Nat->Ord}{L:Nat->Prop}(m:Mk w bb B om L){s i:Nat}(hs:s<2)(hi:i<B.n s)(h1:cO w' bb (B.leave om s i) om)(h2:∃ix,df w' (B.h s i) (om (B.h s i)) ix)(h3:aj (fun b=>b=bb\/dG B s b) w w'):Mk w' bb (B.leave om s i) om L:=by
 have hinj:∀a b,a<(B.n s-1)+1->b<(B.n s-1)+1->eQ (fP om) (B.h s) (B.n s-1) i a=eQ (fP om) (B.h s) (B.n s-1) i b->a=b:=by
  have h0:ry (B.n s-1+1) (B.h s):=by rw[show B.n s-1+1=B.n s by omega];exact (m.aY.side s hs).inj
  exact h0.qp (by omega)
 refine⟨h1,fun b hb=>?_,fun t ht k hk=>?_⟩
 ·by_cases e:b=B.h s i
  ·rw[e];exact h2
  ·obtain⟨ix,ho⟩:=m.bz b hb;by_cases hm:Mem (B.n s) (B.h s) b
   ·have hm':Mem (B.n s-1+1) (B.h s) b:=by rw[show B.n s-1+1=B.n s by omega];exact hm
    obtain⟨k,hk,e'⟩:=(jY (lt:=fP om) (B.h s) i (by omega) hinj b).2 ⟨hm',e⟩;have:=(h1.side s hs).bz (i:=k) (by simp only[Bk.leave,ai];exact hk);simp only[Bk.leave,ai]at this;rw[<-e']at this;exact⟨k,this⟩
   ·refine⟨ix,h3.aF ho ?_⟩;rintro (rfl | h | h)
    ·exact aA.ne ho m.aY.aF (by decide) rfl
    ·exact (m.aY.side s hs).ne ho (by decide) h
    ·exact hm h
 ·by_cases e:t=s
  ·subst e;simp only[Bk.leave,ai]at hk ⊢;obtain⟨k',hk',e'⟩:=(pR (lt:=fP om) (B.h t) i (n:=B.n t-1) (by omega) _).1 ⟨k,by omega,rfl⟩;rw[e'];exact m.mem t ht k' (by omega)
  ·simp only[Bk.leave,ah _ _ e]at hk ⊢;exact m.mem t ht k hk
theorem Mk.aQ{w w':World}{bb:Nat}{B:Bk}{om:Nat->Ord}{L:Nat->Prop}(m:Mk w bb B om L){b:Nat}{o':Ord}{ix:Int}(ho:df w b (om b) ix)(k:aj (fun x=>x=b) w w')(ho':df w' b o' ix):Mk w' bb B (aQ om b o') L:=by
 refine⟨m.aY.aQ ho k ho',fun x hx=>?_,m.mem⟩;by_cases e:x=b
 ·subst e;rw[ai];exact⟨ix,ho'⟩
 ·rw[ah _ _ e];obtain⟨iy,hy⟩:=m.bz x hx;exact⟨iy,k.aF hy e⟩
theorem Mk.aC{w w':World}{bb:Nat}{B:Bk}{om:Nat->Ord}{L:Nat->Prop}(m:Mk w bb B om L){S:Nat->Prop}(k:aj S w w')(h1:¬S bb)(h2:∀b,L b->¬S b)(h3:∀s,s<2->∀b,ig (B.sl s)=some b->¬S b):Mk w' bb B om L :=
 ⟨m.aY.aC k (fun b hb=>by
  rcases hb with rfl | ⟨s,hs,h | ⟨j,hj,rfl⟩⟩
  ·exact h1
  ·exact h3 s hs b h
  ·exact h2 _ (m.mem s hs j hj)),fun b hb=>by obtain⟨ix,ho⟩:=m.bz b hb;exact⟨ix,k.aF ho (h2 b hb)⟩,m.mem⟩
def jS(w:World)(b:Nat)(o:Ord)(lo:Nat)(fn:Fn)(cp:Array Value):Prop:=fn=.func 151/\∃H,lo<=H/\cp=#[dD (H+1),dD H]/\yG w H b o
def jo(w:World)(bb b lo:Nat)(fn:Fn)(cp:Array Value):Prop:=fn=.func 117/\∃H,lo<=H/\cp=#[dD H,dD (H+1)]/\wY w H bb b
theorem qJ(bb:Nat)(B:Bk)(om:Nat->Ord)(L:Nat->Prop)(s i:Nat)(w:World)(m:Mk w bb B om L)(hs:s<2)(hi:i<B.n s)(hside:(om (B.h s i)).side=(s:Int)) :
 CT 66 #[PP bb,PP (B.h s i)] w fun e w'=>∃fn cp,e=.returned (.func fn #[] cp)/\jo w' bb (B.h s i) w.heap.size fn cp/\Mk w' bb (B.leave om s i) om L/\aj (fun b=>b=bb\/dG B s b) w w':=by
 refine (Qs bb B om s i w m.aY hs hi hside).mono ?_;rintro e w' ⟨rfl,h0,h1,h2,h3⟩;exact⟨_,_,rfl,⟨rfl,_,Nat.le_refl _,rfl,h0⟩,m.leave hs hi h1 h2 h3,h3⟩
theorem OB(bb b:Nat)(B:Bk)(om:Nat->Ord)(L:Nat->Prop)(q:Int)(w:World)(m:Mk w bb B om L)(hb:L b) :
 CT 177 #[PP b,II q] w fun e w'=>∃fn cp,e=.returned (.func fn #[] cp)/\jS w' b (om b) w.heap.size fn cp/\Mk w' bb B (aQ om b { om b with aO:=wrap64 ((om b).aO-q),filled:=wrap64 ((om b).filled+q) }) L/\aj (fun x=>x=b) w w':=by
 obtain⟨ix,ho⟩:=m.bz b hb;refine (Td b (om b) ix q w ho).mono ?_;rintro e w' ⟨rfl,h0,h1,h2⟩;exact⟨_,_,rfl,⟨rfl,_,Nat.le_refl _,rfl,h0⟩,m.aQ ho h2 h1,h2⟩
theorem mV(bb b:Nat)(B:Bk)(om:Nat->Ord)(L:Nat->Prop)(w:World)(m:Mk w bb B om L)(hb:L b) :
 CT 67 #[PP b] w fun e w'=>∃fn cp,e=.returned (.func fn #[] cp)/\jS w' b (om b) w.heap.size fn cp/\Mk w' bb B (aQ om b { om b with aO:=0,bZ:=wrap64 ((om b).bZ+(om b).aO) }) L/\aj (fun x=>x=b) w w':=by
 obtain⟨ix,ho⟩:=m.bz b hb;refine (AZ b (om b) ix w ho).mono ?_;rintro e w' ⟨rfl,h0,h1,h2⟩;exact⟨_,_,rfl,⟨rfl,_,Nat.le_refl _,rfl,h0⟩,m.aQ ho h2 h1,h2⟩
def ja(o:Ord)(q:Int):Ord:={ o with aO:=wrap64 (o.aO-q),filled:=wrap64 (o.filled+q) }
def aV(om:Nat->Ord)(oc ow:Nat):Nat->Ord :=
 let q:=min (om oc).aO (om ow).aO
 aQ (aQ om oc (ja (om oc) q)) ow (ja (om ow) q)
def dU(B:Bk)(om:Nat->Ord)(oc ow s:Nat):Bk:=if (aV om oc ow ow).aO=0 then B.leave (aV om oc ow) s 0 else B
def iY(B:Bk)(om:Nat->Ord)(oc ow:Nat):Tr :=
 { num:=0,sym:=B.sym,af:=(om ow).af,aK:=min (om oc).aO (om ow).aO,qC:=if (om oc).side=1 then (om ow).id else (om oc).id,iK:=if (om oc).side=1 then (om oc).id else (om ow).id,day:=0 }
theorem Mk.jw{w w':World}{bb bv bm bo:Nat}{B:Bk}{om:Nat->Ord}{L:Nat->Prop}{G:Lg}{lm:Lm}(m:Mk w bb B om L)(hl:bG w bv bm bo G lm)(k:aj (fun b=>b=bv\/lm.F b) w w'):Mk w' bb B om L:=by
 have no:∀{b c t},aA w b c t->t≠100->t≠103->t≠62->t≠105->t≠109->t≠1/\t≠5->¬(b=bv\/lm.F b):=by
  rintro b c t hb h0 h1 h2 h3 h4 h5 (e | e)
  ·exact aA.ne hb hl.dC h0 e
  ·exact hl.aP.ne hb h1 h2 h3 h4 h5 e
 refine m.aC k (no m.aY.aF (by decide) (by decide) (by decide) (by decide) (by decide) (by decide)) (fun b hb=>?_) (fun s hs b hb=>?_)
 ·obtain⟨ix,ho⟩:=m.bz b hb;exact no ho (by decide) (by decide) (by decide) (by decide) (by decide) (by decide)
 ·rcases m.aY.side s hs with⟨h0,_⟩ | ⟨ab,hab,hsd⟩
  ·rw[h0]at hb;simp[ig]at hb
  ·obtain⟨cs,hcs,_⟩:=hsd.sJ;rw[hab]at hb;simp[ig]at hb;rw[<-hb];exact no hcs (by decide) (by decide) (by decide) (by decide) (by decide) (by decide)
theorem fU.jF{w w':World}{bv bm bo:Nat}{G:Lg}{m:Lm}(h:bG w bv bm bo G m){S:Nat->Prop}(k:aj S w w')(hS:∀b,S b->∃c t,aA w b c t/\(t=158\/t=116\/t=114)):bG w' bv bm bo G m:=by
 refine h.aC k (fun hb=>?_) (fun b hf hb=>?_)
 ·obtain⟨c,t,hc,ht⟩:=hS bv hb;exact aA.ne h.dC hc (by rcases ht with rfl | rfl | rfl <;> decide) rfl
 ·obtain⟨c,t,hc,ht⟩:=hS b hb;exact h.aP.ne hc (by rcases ht with rfl | rfl | rfl <;> decide) (by rcases ht with rfl | rfl | rfl <;> decide) (by rcases ht with rfl | rfl | rfl <;> decide) (by rcases ht with rfl | rfl | rfl <;> decide) (by rcases ht with rfl | rfl | rfl <;> decide) hf
theorem Mk.gK{w:World}{bb:Nat}{B:Bk}{om:Nat->Ord}{L:Nat->Prop}(m:Mk w bb B om L){b:Nat}(h:b=bb\/L b\/∃s,s<2/\dG B s b):∃c t,aA w b c t/\(t=158\/t=116\/t=114):=by
 rcases h with rfl | h | ⟨s,hs,h | ⟨k,hk,rfl⟩⟩
 ·exact⟨_,158,m.aY.aF,.inl rfl⟩
 ·obtain⟨ix,ho⟩:=m.bz b h;exact⟨_,116,ho,.inr (.inl rfl)⟩
 ·rcases m.aY.side s hs with⟨h0,_⟩ | ⟨ab,hab,hsd⟩
  ·rw[h0]at h;simp[ig]at h
  ·obtain⟨cs,hcs,_⟩:=hsd.sJ;rw[hab]at h;simp[ig]at h;rw[<-h];exact⟨_,114,hcs,.inr (.inr rfl)⟩
 ·exact⟨_,116,(m.aY.side s hs).bz hk,.inr (.inl rfl)⟩
def dn(G:Lg)(om:Nat->Ord)(oc ow:Nat):Lg:=if (aV om oc ow ow).aO=0 then (G.aX [.gp oc (om oc),.gp ow (om ow)]).aX [.left ow] else G.aX [.gp oc (om oc),.gp ow (om ow)]
theorem gW(G:Lg)(om:Nat->Ord)(oc ow:Nat):(dn G om oc ow).tr=G.tr:=by unfold dn;split <;> rfl
theorem oH(G:Lg)(om:Nat->Ord)(oc ow:Nat):(dn G om oc ow).tp=G.tp:=by unfold dn;split <;> rfl
theorem rX(G:Lg)(om:Nat->Ord)(oc ow:Nat):(dn G om oc ow).day=G.day:=by unfold dn;split <;> rfl
theorem y8(G:Lg)(om:Nat->Ord)(oc ow:Nat):(dn G om oc ow).na=G.na:=by unfold dn;split <;> rfl
theorem y9(G:Lg)(om:Nat->Ord)(oc ow:Nat):(dn G om oc ow).nt.length<=G.nt.length+3:=by
 unfold dn;split
 ·simp only[Lg.aX,List.length_append,List.length_cons,List.length_nil];omega
 ·simp only[Lg.aX,List.length_append,List.length_cons,List.length_nil];omega
structure MS where
 B:Bk
 om:Nat->Ord
 lg:Lg
def MS.tr(st:MS):Int:=st.lg.tr.length
def dm(o:Ord):iT:=⟨o.id,o.aG,o.sym,o.side,o.kind,o.af,o.aK⟩
def gz(o:Ord):Ord:={ o with aO:=0,bZ:=wrap64 (o.bZ+o.aO) }
def bF(oc s:Nat)(st:MS):MS :=
 if (st.om (st.B.h s 0)).aG=(st.om oc).aG then ⟨st.B.leave st.om s 0,aQ st.om (st.B.h s 0) (gz (st.om (st.B.h s 0))),st.lg.aX [.left (st.B.h s 0),.gp (st.B.h s 0) (st.om (st.B.h s 0))]⟩
 else ⟨dU st.B st.om oc (st.B.h s 0) s,aV st.om oc (st.B.h s 0),(dn st.lg st.om oc (st.B.h s 0)).jT (iY st.B st.om oc (st.B.h s 0))⟩
def stops(oc s:Nat)(st:MS):Bool:=!decide (0<(st.om oc).aO) || (dJ st.B st.om (dm (st.om oc)) s).isNone
def aZ(oc s:Nat):Nat->MS->MS
 | 0,st=>st
 | f+1,st=>if stops oc s st then st else aZ oc s f (bF oc s st)
def mu(oc s:Nat)(st:MS):Nat:=st.B.n s+(if 0<(st.om oc).aO then 1 else 0)
def mF(oc s:Nat)(st:MS):MS:=aZ oc s (mu oc s st) st
structure sV(oc s:Nat)(st:MS):Prop where
 mem:∀k,k<st.B.n s->(st.om (st.B.h s k)).side=(s:Int)/\0<(st.om (st.B.h s k)).aO/\(st.om (st.B.h s k)).aO<=1000000000000000/\st.B.h s k≠oc
 inj:ry (st.B.n s) (st.B.h s)
 lo:0<=(st.om oc).aO
 hi:(st.om oc).aO<=1000000000000000
 side:(st.om oc).side=1-(s:Int)
theorem aT{x:Int}(h1:-9223372036854775808<=x)(h2:x<9223372036854775808):wrap64 x=x:=by
 unfold wrap64;omega
theorem oG{B:Bk}{om:Nat->Ord}{s:Nat}(hinj:ry (B.n s) (B.h s))(hn:0<B.n s):∀k,k<(B.leave om s 0).n s->∃k',k'<B.n s/\(B.leave om s 0).h s k=B.h s k'/\B.h s k'≠B.h s 0:=by
 intro k hk;simp only[Bk.leave,ai]at hk ⊢;have h0:ry (B.n s-1+1) (B.h s):=by rw[show B.n s-1+1=B.n s by omega];exact hinj
 obtain⟨⟨k',hk',e⟩,hne⟩:=(jY (lt:=fP om) (B.h s) 0 (n:=B.n s-1) (by omega) (h0.qp (by omega)) _).1 ⟨k,hk,rfl⟩;exact⟨k',by omega,e,by rw[<-e];exact hne⟩
theorem EJ{B:Bk}{om:Nat->Ord}{s:Nat}(hinj:ry (B.n s) (B.h s))(hn:0<B.n s):ry ((B.leave om s 0).n s) ((B.leave om s 0).h s):=by
 have h0:ry (B.n s-1+1) (B.h s):=by rw[show B.n s-1+1=B.n s by omega];exact hinj
 simp only[Bk.leave,ai];exact fun a b ha hb e=>(h0.qp (lt:=fP om) (i:=0) (by omega)) a b (by omega) (by omega) e
theorem uf{B:Bk}{om:Nat->Ord}{o:iT}{s b:Nat}(h:dJ B om o s=some b):0<B.n s/\b=B.h s 0:=by
 unfold dJ at h;split at h
 ·simp at h
 ·split at h
  ·simp at h;exact⟨by omega,h.symm⟩
  ·simp at h
theorem oV{oc s:Nat}{st:MS}(iv:sV oc s st)(hn:0<st.B.n s)(hp:0<(st.om oc).aO):sV oc s (bF oc s st)/\mu oc s (bF oc s st)<mu oc s st/\(∀b,dG (bF oc s st).B s b->dG st.B s b):=by
 obtain⟨B,om,tr⟩:=st;have h0:=iv.mem 0 hn;simp only at h0 hn hp;have ivm:=iv.mem;have Qm:=iv.inj;have ivl:=iv.lo;have ivh:=iv.hi;have ivs:=iv.side;simp only at ivm Qm ivl ivh ivs;obtain⟨hs0,hpos,hmax,hne⟩:=h0;have hne':oc≠B.h s 0:=fun e=>hne e.symm
 have Jq:∀dK b,dG (B.leave dK s 0) s b->dG B s b:=by
  rintro dK b (h | ⟨k,hk,e⟩)
  ·exact .inl h
  ·obtain⟨k',hk',e',_⟩:=oG (om:=dK) Qm hn k hk;exact .inr ⟨k',hk',by rw[e,e']⟩
 have Ur:∀dK,(B.leave dK s 0).n s=B.n s-1:=fun dK=>by simp only[Bk.leave,ai]
 unfold bF;simp only;split
 ·have hoc:aQ om (B.h s 0) (gz (om (B.h s 0))) oc=om oc:=ah _ _ hne';refine⟨⟨?_,EJ Qm hn,by simp only[hoc];exact ivl,by simp only[hoc];exact ivh,by simp only[hoc];exact ivs⟩,?_,Jq om⟩
  ·intro k hk;obtain⟨k',hk',e,hne0⟩:=oG (om:=om) Qm hn k hk;simp only[e,ah _ _ hne0];exact ivm k' hk'
  ·unfold mu;simp only[hoc,Ur];omega
 ·obtain⟨q,hq⟩:=mf (min (om oc).aO (om (B.h s 0)).aO);have hq0:0<q:=by omega
  have hq1:q<=(om oc).aO:=by omega
  have hq2:q<=(om (B.h s 0)).aO:=by omega
  have DD:aV om oc (B.h s 0) oc=ja (om oc) q:=by unfold aV;rw[ah _ _ hne',ai,hq]
  have QW:aV om oc (B.h s 0) (B.h s 0)=ja (om (B.h s 0)) q:=by unfold aV;rw[ai,hq]
  have tot:∀x,x≠oc->x≠B.h s 0->aV om oc (B.h s 0) x=om x:=fun x h1 h2=>by unfold aV;rw[ah _ _ h2,ah _ _ h1]
  have oc8:(ja (om oc) q).aO=(om oc).aO-q:=by simp only[ja];exact aT (by omega) (by omega)
  have ow8:(ja (om (B.h s 0)) q).aO=(om (B.h s 0)).aO-q:=by simp only[ja];exact aT (by omega) (by omega)
  unfold dU;rw[QW,ow8];by_cases hz:(om (B.h s 0)).aO-q=0
  ·rw[if_pos hz];refine⟨⟨?_,EJ Qm hn,by simp only[DD,oc8];omega,by simp only[DD,oc8];omega,by simp only[DD];exact ivs⟩,?_,Jq _⟩
   ·intro k hk;obtain⟨k',hk',e,hne0⟩:=oG (om:=aV om oc (B.h s 0)) Qm hn k hk;simp only[e];rw[tot _ (ivm k' hk').2.2.2 hne0];exact ivm k' hk'
   ·unfold mu;simp only[DD,oc8,Ur];rw[if_pos hp];split <;> omega
  ·rw[if_neg hz];refine⟨⟨?_,Qm,by simp only[DD,oc8];omega,by simp only[DD,oc8];omega,by simp only[DD];exact ivs⟩,?_,fun b h=>h⟩
   ·intro k hk;simp only;by_cases e:k=0
    ·subst e;rw[QW];refine⟨hs0,by rw[ow8];omega,by rw[ow8];omega,hne⟩
    ·have:B.h s k≠B.h s 0:=fun h=>e (Qm k 0 hk hn h)
     rw[tot _ (ivm k hk).2.2.2 this];exact ivm k hk
   ·unfold mu;simp only[DD,oc8];rw[if_pos hp,if_neg (by omega)];omega
theorem zH{oc s f:Nat}{st:MS}(h:stops oc s st=true):aZ oc s f st=st:=by
 cases f with
 | zero=>rfl
 | succ f=>rw[aZ,if_pos h]
def dB(o:Ord):Bool:=decide (0<o.aO) && fD o.kind
def aH(oc:Nat)(st:MS):Nat->Ord :=
 if dB (st.om oc) then aQ st.om oc { st.om oc with place:=wrap64 (st.B.places+1) } else aQ st.om oc (gz (st.om oc))
def eu(oc t g cap':Nat)(st:MS):Bk :=
 if dB (st.om oc) then st.B.rest (aH oc st) t oc g cap' else st.B
def mM(f r c a n:Int):Value:=.agg #[II f,II r,II c,II a,II n]
def lG(o o':Ord)(tr tr':Int):Value :=
 if tr<tr' then mM (wrap64 (o'.filled-o.filled)) o'.aO (wrap64 (o'.bZ-o.bZ)) (wrap64 (tr+1)) (wrap64 (tr'-tr))
 else mM (wrap64 (o'.filled-o.filled)) o'.aO (wrap64 (o'.bZ-o.bZ)) 0 0
def lX:Array Value:=#[II 0,II 0,II 0,II 0,II 0]
theorem Mk.Fb{w:World}{bb:Nat}{B:Bk}{om:Nat->Ord}{L:Nat->Prop}(m:Mk w bb B om L){s:Nat}(hs:s<2){b:Nat}(h:dG B s b):b<w.heap.size:=by
 rcases h with h | ⟨k,hk,rfl⟩
 ·exact (m.aY.side s hs).lt h
 ·exact ((m.aY.side s hs).bz hk).lt
theorem zi(x:Int):IntKind.i64.wrap x=wrap64 x:=by rw[IntKind.wrap_i64];unfold wrap64;omega
theorem E8(tmps:Array Value)(H:Nat)(w:World)(a b c d e:Int)(ht:tmps.getD 6 undef=PP H)(hb:aA w H #[II a,II b,II c,II d,II e] 87) :
 (results Tryz.f70 tmps).run Tryz.prog w=.ok (mM a b c d e) w:=by
 obtain⟨c0,c1,c2,c3,c4⟩:=hb.c5;simp only[Array.getD_eq_getD_getElem?]at ht;simp[results,Tryz.results70,go_sem,ht,c0,c1,c2,c3,c4,mM]
theorem jy(oc s:Nat):∀(f:Nat) (st:MS),(∀t,t≠s->(aZ oc s f st).B.n t=st.B.n t/\(aZ oc s f st).B.h t=st.B.h t)/\(aZ oc s f st).B.sl=st.B.sl/\(aZ oc s f st).B.cap=st.B.cap/\(aZ oc s f st).B.sym=st.B.sym/\(aZ oc s f st).B.places=st.B.places:=by
 intro f
 induction f with
 | zero=>intro st;exact⟨fun _ _=>⟨rfl,rfl⟩,rfl,rfl,rfl,rfl⟩
 | succ f ih =>
   intro st;rw[aZ];split
   ·exact⟨fun _ _=>⟨rfl,rfl⟩,rfl,rfl,rfl,rfl⟩
   ·obtain⟨h1,h2,h3,h4,h5⟩:=ih (bF oc s st);have e:(∀t,t≠s->(bF oc s st).B.n t=st.B.n t/\(bF oc s st).B.h t=st.B.h t)/\(bF oc s st).B.sl=st.B.sl/\(bF oc s st).B.cap=st.B.cap/\(bF oc s st).B.sym=st.B.sym/\(bF oc s st).B.places=st.B.places:=by
     unfold bF;split
     ·exact⟨fun t ht=>⟨ah _ _ ht,ah _ _ ht⟩,rfl,rfl,rfl,rfl⟩
     ·simp only[dU];split
      ·exact⟨fun t ht=>⟨ah _ _ ht,ah _ _ ht⟩,rfl,rfl,rfl,rfl⟩
      ·exact⟨fun _ _=>⟨rfl,rfl⟩,rfl,rfl,rfl,rfl⟩
    exact⟨fun t ht=>⟨(h1 t ht).1.trans (e.1 t ht).1,(h1 t ht).2.trans (e.1 t ht).2⟩,h2.trans e.2.1,h3.trans e.2.2.1,h4.trans e.2.2.2.1,h5.trans e.2.2.2.2⟩
theorem Mk.rest{w w':World}{bb ob s g cap':Nat}{B:Bk}{om dK:Nat->Ord}{L:Nat->Prop}(m:Mk w bb B om L)(hs:s<2)(hL:L ob)(jK:∀b,b≠ob->dK b=om b)(h1:cO w' bb (B.rest dK s ob g cap') dK)(h3:aj (fun b=>b=bb\/b=ob\/dG B s b) w w'):Mk w' bb (B.rest dK s ob g cap') dK L:=by
 have hmem:∀b,Mem (B.n s) (B.h s) b\/b=ob->∃ix,df w' b (dK b) ix:=by
  intro b hb;obtain⟨k,hk,e⟩:=(jh (lt:=fP dK) (B.h s) ob b).2 hb;have:=(h1.side s hs).bz (i:=k) (by simp only[Bk.rest,ai];exact hk);simp only[Bk.rest,ai]at this;rw[<-e]at this;exact⟨k,this⟩
 refine⟨h1,fun b hb=>?_,fun t ht k hk=>?_⟩
 ·by_cases e:b=ob
  ·exact hmem b (.inr e)
  ·by_cases hm:Mem (B.n s) (B.h s) b
   ·exact hmem b (.inl hm)
   ·obtain⟨ix,ho⟩:=m.bz b hb;rw[jK b e];refine⟨ix,h3.aF ho ?_⟩;rintro (rfl | h | h | h)
    ·exact aA.ne ho m.aY.aF (by decide) rfl
    ·exact e h
    ·exact (m.aY.side s hs).ne ho (by decide) h
    ·exact hm h
 ·by_cases e:t=s
  ·subst e;simp only[Bk.rest,ai]at hk ⊢;rcases (jh (lt:=fP dK) (B.h t) ob _).1 ⟨k,hk,rfl⟩ with⟨k',hk',e'⟩ | e'
   ·rw[e'];exact m.mem t ht k' hk'
   ·rw[e'];exact hL
  ·simp only[Bk.rest,ah _ _ e]at hk ⊢;exact m.mem t ht k hk
def iC(oc:Nat)(st:MS):Lg:=st.lg.aX [if dB (st.om oc) then .fC oc (st.om oc).place else .gp oc (st.om oc)]
theorem tY(oc:Nat)(st:MS):(iC oc st).tr=st.lg.tr:=rfl
theorem UC(oc s:Nat)(st:MS):(bF oc s st).lg.na=st.lg.na/\(bF oc s st).lg.nt.length<=st.lg.nt.length+4:=by
 unfold bF;split
 ·exact⟨rfl,by simp only[Lg.aX,List.length_append,List.length_cons,List.length_nil];omega⟩
 ·have g4:=y9 st.lg st.om oc (st.B.h s 0);exact⟨by simp only[Lg.jT,Lg.told,Lg.aC,Lg.aX,y8],by simp only[Lg.jT,Lg.told,Lg.aC,Lg.aX,List.length_append,List.length_cons,List.length_nil];omega⟩
theorem qM(oc s:Nat):∀(f:Nat) (st:MS),(aZ oc s f st).lg.na=st.lg.na/\(aZ oc s f st).lg.nt.length<=st.lg.nt.length+4 * f
 | 0,st=>⟨rfl,by simp[aZ]⟩
 | f+1,st=>by
   rw[aZ];split
   ·exact⟨rfl,by omega⟩
   ·have h1:=qM oc s f (bF oc s st);have h2:=UC oc s st;exact⟨h1.1.trans h2.1,by omega⟩
def lC(w:World)(bb b:Nat)(p:Int)(lo:Nat)(fn:Fn)(cp:Array Value):Prop:=fn=.func 153/\∃H,lo<=H/\cp=#[dD H,dD (H+1),dD (H+2)]/\xe w H bb b p
theorem qB.zg{w:World}{G:Lg}{m:Lm}(h:aa2 w G m){n:Nat}(hn:G.tr.length=n):∃a c,m.tv=.slice a n c:=by
 rcases h.jJ.2 with⟨h,h0⟩ | ⟨g,cap,cs,h,_⟩
 ·exact⟨none,0,by rw[h,<-hn,h0]⟩
 ·exact⟨_,cap,by rw[h,hn]⟩
open Go.RowKit Go.Maps
def jA(v:Value):Option (DataW Unit × List MemPlace) :=
 match v with
 | .pointer none=>some (.nil,[])
 | .pointer (some ⟨b,0,none⟩)=>some (.lit (.int .i64 b),[])
 | _=>none
def JK:Option Nat->DataW Unit
 | none=>.nil
 | some b=>.lit (.int .i64 b)
theorem NH(x:Option Nat):jA (ji x)=some (JK x,[]):=by cases x <;> rfl
theorem zK{v:Value}{x:Option Nat}{ps:List MemPlace}(h:jA v=some (JK x,ps)):v=ji x:=by
 unfold jA at h;split at h
 ·cases x
  ·rfl
  ·simp[JK]at h
 ·cases x
  ·simp[JK]at h
  ·simp[JK]at h;obtain⟨h,_⟩:=h;simp[ji,h]
 ·simp at h
def kG(w:World)(k:TypeId)(b:Nat)(f:Lit->Option Nat)(n:Nat):Prop :=
 ∃D:DataW Unit,w.ownsMap Tryz.prog k jA b n D/\Maps.size D=n/\(∀kl,D.atKey kl .nil=JK (f kl))/\(∀kl,Maps.has D kl=(f kl).isSome)
theorem kG.aC{w w':World}{k:TypeId}{b:Nat}{f:Lit->Option Nat}{n:Nat}(h:kG w k b f n){S:Nat->Prop}(c:aj S w w')(hS:¬S b):kG w' k b f n:=by
 obtain⟨D,⟨es,clock,hb,r⟩,h2⟩:=h;refine⟨D,⟨es,clock,?_,r⟩,h2⟩;rw[c.block b (Array.getElem?_eq_some_iff.1 hb).1 hS];exact hb
theorem kG.lt{w:World}{k:TypeId}{b:Nat}{f:Lit->Option Nat}{n:Nat}(h:kG w k b f n):b<w.heap.size:=by
 obtain⟨D,h1,_⟩:=h;exact h1.lt
theorem kG.ne{w:World}{k:TypeId}{b:Nat}{f:Lit->Option Nat}{n:Nat}(h:kG w k b f n){b':Nat}{c:Array Value}{t:TypeId}(hb:aA w b' c t):b≠b':=by
 rintro rfl;obtain⟨D,⟨es,clock,h1,_⟩,_⟩:=h;unfold aA at hb;rw[h1]at hb;simp at hb
theorem qA(w:World):(zeroValue 111).run Tryz.prog w=.ok (.pointer none) w:=by kernel_rfl
theorem wU(w:World):(zeroValue 114).run Tryz.prog w=.ok (.pointer none) w:=by kernel_rfl
theorem zV:Keyed Tryz.prog 9:=string_keyed Tryz.underlying9
theorem zU:Keyed Tryz.prog 3:=int_keyed Tryz.underlying3
theorem kG.look{w:World}{k t e:TypeId}{b:Nat}{f:Lit->Option Nat}{n:Nat}(h:kG w k b f n)(K:Keyed Tryz.prog k)(ht:Tryz.prog.underlying t=some (.map k e))(hz:(zeroValue e).run Tryz.prog w=.ok (.pointer none) w){key:Value}{kl:Lit}(hkey:keyOf Tryz.prog k key=some kl) :
 (Instr.lookup t (.map (some b)) key false).run Tryz.prog w=.ok (ji (f kl)) w:=by
 obtain⟨D,h1,_,h3,_⟩:=h;obtain⟨v,ps,hrun,hv⟩:=h1.lookup K ht hz (zd:=.nil) (zp:=[]) rfl hkey;rw[h3 kl]at hv;rw[hrun,zK hv]
theorem kG.len{w:World}{k t e:TypeId}{b:Nat}{f:Lit->Option Nat}{n:Nat}(h:kG w k b f n)(ht:Tryz.prog.underlying t=some (.map k e))(ty:TypeId) :
 (Builtin.len_ #[t] ty #[.map (some b)]).run Tryz.prog w=.ok (II n) w:=by
 obtain⟨D,h1,h2,_⟩:=h;rw[h1.len ht ty,h2]
def Ed(f:Lit->Option Nat)(kl:Lit)(x:Nat):Lit->Option Nat:=fun k=>if k.sameKey kl then some x else f k
theorem kG.put{w:World}{k t e:TypeId}{b:Nat}{f:Lit->Option Nat}{n x:Nat}(h:kG w k b f n)(K:Keyed Tryz.prog k)(ht:Tryz.prog.underlying t=some (.map k e))(hn:n<maxLen){key:Value}{kl:Lit}(hkey:keyOf Tryz.prog k key=some kl)(hk:WideAt.IsKeyLit kl)(hf:f kl=none) :
 ∃w',(Instr.mapUpdate t (.map (some b)) key (PP x)).run Tryz.prog w=.ok () w'/\kG w' k b (Ed f kl x) (n+1)/\aj (fun i=>i=b) w w':=by
 obtain⟨D,h1,h2,h3,h4⟩:=h;obtain⟨w',hrun,h5,h6⟩:=h1.update K ht hn hkey (NH (some x));refine⟨w',hrun,⟨_,h5,?_,?_,?_⟩,?_⟩
 ·rw[size_put (h1.tidy K),h4 kl,hf];simp[h2]
 ·intro k';unfold Ed;by_cases e:k'=kl
  ·subst e;rw[atKey_put_same h1.isMap hk,if_pos (WideAt.sameKey_self hk)]
  ·rw[atKey_put_other e,if_neg (fun h=>e ((WideAt.sameKey_iff hk).1 h)),h3]
 ·intro k';unfold Ed;by_cases e:k'=kl
  ·subst e;rw[has_put_same h1.isMap hk,if_pos (WideAt.sameKey_self hk)];rfl
  ·rw[has_put_other e,if_neg (fun h=>e ((WideAt.sameKey_iff hk).1 h)),h4]
 ·exact⟨h6.os,h6.tape,h6.output,h6.size,fun i hi hs=>h6.block i hi (fun h=>hs (by simpa using h))⟩
theorem kG.made(w:World)(k:TypeId):kG (w.alloc (.map #[] 0)) k w.heap.size (fun _=>none) 0 :=
 ⟨.map [],World.ownsMap_made w Tryz.prog k jA,rfl,fun _=>rfl,fun _=>rfl⟩
def dX(n:Int):Bool:=decide (1<=n) && decide (n<=1000000)
def oW(n:Int):Bool:=decide (0<=n) && decide (n<=9)
def ni(n:Int):Bool:=(n == 0) || (n == 1)
def pK(n:Int):Bool:=decide (0<=n) && decide (n<=5)
def iV(kind p:Int):Bool:=if kind=5 then p == 0 else dX p
theorem dh(n:Int)(w:World):CT 68 #[II n] w fun e w'=>e=.returned (.bool (dX n))/\w'=w:=by
 by_cases h1:1<=n
 ·have HR:Hid (dX n=decide (n<=1000000)):=by show _=_;simp[dX,h1]
  go_enter Tryz.func68,Tryz.ntmps68;go_wp2;go_ret;exact⟨by rw[HR.out];rfl,rfl⟩
 ·have HR:Hid (dX n=false):=by show _=_;simp[dX,h1]
  go_enter Tryz.func68,Tryz.ntmps68;go_wp2;go_ret;exact⟨by rw[HR.out];rfl,rfl⟩
theorem eP(n:Int)(w:World):CT 144 #[II n] w fun e w'=>e=.returned (.bool (oW n))/\w'=w:=by
 by_cases h1:0<=n
 ·have HR:Hid (oW n=decide (n<=9)):=by show _=_;simp[oW,h1]
  go_enter Tryz.func144,Tryz.ntmps144;go_wp2;go_ret;exact⟨by rw[HR.out];rfl,rfl⟩
 ·have HR:Hid (oW n=false):=by show _=_;simp[oW,h1]
  go_enter Tryz.func144,Tryz.ntmps144;go_wp2;go_ret;exact⟨by rw[HR.out];rfl,rfl⟩
theorem fA(n:Int)(w:World):CT 47 #[II n] w fun e w'=>e=.returned (.bool (ni n))/\w'=w:=by
 cases h1:(n == 0)
 ·have HR:Hid (ni n=(n == 1)):=by show _=_;simp[ni,h1]
  go_enter Tryz.func47,Tryz.ntmps47;go_wp2;go_ret;exact⟨by rw[HR.out];rfl,rfl⟩
 ·have HR:Hid (ni n=true):=by show _=_;simp[ni,h1]
  go_enter Tryz.func47,Tryz.ntmps47;go_wp2;go_ret;exact⟨by rw[HR.out];rfl,rfl⟩
theorem fV(n:Int)(w:World):CT 145 #[II n] w fun e w'=>e=.returned (.bool (pK n))/\w'=w:=by
 by_cases h1:0<=n
 ·have HR:Hid (pK n=decide (n<=5)):=by show _=_;simp[pK,h1]
  go_enter Tryz.func145,Tryz.ntmps145;go_wp2;go_ret;exact⟨by rw[HR.out];rfl,rfl⟩
 ·have HR:Hid (pK n=false):=by show _=_;simp[pK,h1]
  go_enter Tryz.func145,Tryz.ntmps145;go_wp2;go_ret;exact⟨by rw[HR.out];rfl,rfl⟩
theorem dP(k n:Int)(w:World):CT 146 #[II k,II n] w fun e w'=>e=.returned (.bool (iV k n))/\w'=w:=by
 by_cases h1:k=5
 ·have e1:(k == 5)=true:=by simp[h1]
  have HR:Hid (iV k n=(n == 0)):=by show _=_;simp[iV,h1]
  clear h1;go_enter Tryz.func146,Tryz.ntmps146;go_wp2;go_ret;exact⟨by rw[HR.out];rfl,rfl⟩
 ·have e1:(k == 5)=false:=by simp[h1]
  have HR:Hid (iV k n=dX n):=by show _=_;simp[iV,h1]
  clear h1;go_enter Tryz.func146,Tryz.ntmps146;go_wp2_with (go_at_call 68;refine (dh _ _).mono ?_;rintro e w' ⟨rfl,rfl⟩);go_ret;exact⟨by rw[HR.out];rfl,rfl⟩
theorem EX{f:Lit->Option Nat}{kl:Lit}{x:Nat}(hk:WideAt.IsKeyLit kl):Ed f kl x kl=some x:=by unfold Ed;rw[if_pos (WideAt.sameKey_self hk)]
theorem Ci{f:Lit->Option Nat}{kl k:Lit}{x:Nat}(hk:WideAt.IsKeyLit kl)(h:k≠kl):Ed f kl x k=f k:=by unfold Ed;rw[if_neg (fun e=>h ((WideAt.sameKey_iff hk).1 e))]
def aN(o:iT):Ord:=⟨o.id,o.aG,o.sym,o.side,o.kind,o.af,o.aK,o.aK,o.aK,0,0,0,0⟩
theorem Gw(o:iT)(w:World):CT 112 #[o.val] w fun e w'=>∃b,e=.returned (PP b)/\w.heap.size<=b/\df w' b (aN o) 0/\aj aJ w w':=by
 obtain⟨id,aG,sym,side,kind,af,aK⟩:=o;simp only[iT.val];go_enter Tryz.func112,Tryz.ntmps112;go_wp2;go_ret;refine⟨_,rfl,?_,?_,?_⟩
 ·simp
 ·exact aA.sQ _ _ _ _
 ·exact ((aj.refl aJ w).alloc _).alloc _
structure aS where
 nb:Nat
 bk:Nat->Nat
 B:Nat->Bk
 om:Nat->Ord
 aW:Int->Option Nat
 no:Nat
 lg:Lg
 lm:Lm
def aS.tr(V:aS):Int:=V.lg.tr.length
def sl(s:ByteArray):Lit:=.string s.data.toList
structure dS(w:World)(bv bm bo:Nat)(V:aS):Prop where
 aP:bG w bv bm bo V.lg V.lm
 iM:∃fB,kG w 9 bm fB V.nb/\(∀i,i<V.nb->fB (sl (V.B i).sym)=some (V.bk i))/\(∀s b,fB (sl s)=some b->∃i,i<V.nb/\b=V.bk i/\(V.B i).sym=s)
 fH:∃fO,kG w 3 bo fO V.no/\(∀id,fO (.int .i64 id)=V.aW id)
 Ia:bm≠bo
 aY:∀i,i<V.nb->cO w (V.bk i) (V.B i) V.om
 bz:∀id b,V.aW id=some b->(V.om b).id=id/\∃ix,df w b (V.om b) ix
 mem:∀i,i<V.nb->∀s,s<2->∀k,k<(V.B i).n s->∃id,V.aW id=some ((V.B i).h s k)
 sS:∀i j,i<V.nb->j<V.nb->i≠j->V.bk i≠V.bk j
 nM:∀i j,i<V.nb->j<V.nb->i≠j->∀s t,s<2->t<2->∀b,dG (V.B i) s b->¬dG (V.B j) t b
 gV:V.no<=200
theorem dS.dC{w:World}{bv bm bo:Nat}{V:aS}(R:dS w bv bm bo V):aA w bv (sU bm bo V.lm V.lg.day) 100:=R.aP.dC
theorem NL(bv bm bo i:Nat)(V:aS)(o:iT)(w:World)(R:dS w bv bm bo V)(hi:i<V.nb)(dR:(V.B i).sym=o.sym)(hlen:o.sym.size<=maxLen)
 (h1:dX o.id=true) (h2:V.aW o.id=none) (h3:oW o.aG=true) (h4:ni o.side=true) (h5:pK o.kind=true) (h6:dX o.aK=true) (h7:iV o.kind o.af=true) (h8:V.no<200) (h9:o.kind≠3) (h10:o.kind≠4) :
 CT 111 #[PP bv,o.val] w fun e w'=>e=.returned (II 0)/\aj aJ w w':=by
 obtain⟨fB,mB,qh,uM⟩:=R.iM;obtain⟨fO,mO,vK⟩:=R.fH;obtain⟨id,aG,sym,side,kind,af,aK⟩:=o;simp only at dR hlen h1 h2 h3 h4 h5 h6 h7 h9 h10;simp only[iT.val];have hid:(Lit.int .i64 id).wf=true:=by
  simp[dX]at h1;exact WalkArith.wf_i64 (by omega)
 have hlb:fB (sl sym)=some (V.bk i):=by rw[<-dR];exact qh i hi
 have hlo:fO (.int .i64 id)=none:=by rw[vK,h2]
 obtain⟨w1,hw1⟩:=kL (w.alloc (.cells #[II id,II aG,.string sym,II side,II kind,II af,II aK] 52));have k1:aj aJ w w1:=by rw[hw1];exact (aj.refl aJ w).alloc _
 have hbx:aA w1 w.heap.size #[II id,II aG,.string sym,II side,II kind,II af,II aK] 52:=by rw[hw1];exact aA.new w _ _
 have L1:∀q,(Instr.lookup 94 (.map (some bm)) (.string sym) false).run Tryz.prog (w1.drewN q)=.ok (PP (V.bk i)) (w1.drewN q):=fun q=>by
  rw[(mB.aC (k1.drewN q) aU).look zV Tryz.underlying94 (qA _) (WideMaps.keyOf_string_mk Tryz.underlying9 hlen)];show _=Result.ok (ji (some (V.bk i))) _;rw[<-hlb];rfl
 have L2:∀q,(Instr.lookup 95 (.map (some bo)) (II id) false).run Tryz.prog (w1.drewN q)=.ok (.pointer none) (w1.drewN q):=fun q=>by
  rw[(mO.aC (k1.drewN q) aU).look zU Tryz.underlying95 (wU _) (keyOf_int_mk Tryz.underlying3 hid)];show _=Result.ok (ji none) _;rw[<-hlo]
 have L3:∀q,(Builtin.len_ #[95] 3 #[.map (some bo)]).run Tryz.prog (w1.drewN q)=.ok (II V.no) (w1.drewN q):=fun q=>(mO.aC (k1.drewN q) aU).len Tryz.underlying95 _
 have v0:CC w1 bv 0 (.map (some bm)):=(k1.aF R.dC aU).cell 0;have v1:CC w1 bv 1 (.map (some bo)):=(k1.aF R.dC aU).cell 1;obtain⟨x0,x1,x2,x3,x4,x5,x6⟩:=hbx.c7;have e3:(kind == 3)=false:=by simp[h9]
 have e4:(kind == 4)=false:=by simp[h10]
 have e8:decide ((200:Int)<=(V.no:Int))=false:=by simp;omega
 obtain⟨HW,HK⟩:=dE hw1 k1;clear hw1 k1 hbx h9 h10 hlb hlo qh uM vK mB mO hid;go_enter Tryz.func111,Tryz.ntmps111;go_wp2;rw[<-ae HW];go_quiet (fail);go_wp2_with (first | (go_at_call 68;refine (dh _ _).mono ?_;rintro e w' ⟨rfl,rfl⟩) | (go_at_call 144;refine (eP _ _).mono ?_;rintro e w' ⟨rfl,rfl⟩) | (go_at_call 47;refine (fA _ _).mono ?_;rintro e w' ⟨rfl,rfl⟩) | (go_at_call 145;refine (fV _ _).mono ?_;rintro e w' ⟨rfl,rfl⟩) | (go_at_call 146;refine (dP _ _ _).mono ?_;rintro e w' ⟨rfl,rfl⟩));go_quiet (fail);go_wp2_with (first | (go_at_call 68;refine (dh _ _).mono ?_;rintro e w' ⟨rfl,rfl⟩) | (go_at_call 144;refine (eP _ _).mono ?_;rintro e w' ⟨rfl,rfl⟩) | (go_at_call 47;refine (fA _ _).mono ?_;rintro e w' ⟨rfl,rfl⟩) | (go_at_call 145;refine (fV _ _).mono ?_;rintro e w' ⟨rfl,rfl⟩) | (go_at_call 146;refine (dP _ _ _).mono ?_;rintro e w' ⟨rfl,rfl⟩));go_quiet (fail);go_wp2;go_ret;exact⟨rfl,((ae HK).drewN _).drewN _⟩
section
variable {α : Type} (f : α -> List Value) (k : Nat)
end
structure RS where
 sy:List ByteArray
 l:List Ord
 t:List Tg
 day:Int
 places:Int
 told:List Rc
theorem QN{w:World}{base e size n:Nat}{v:Value}{xs:List Value}(h:w.ownsRow base e size v n xs):∃a c,v=.slice a n c:=by
 rcases h.2 with⟨rfl,h0⟩ | ⟨g,cap,cs,rfl,_⟩
 ·exact⟨none,0,by rw[h0]⟩
 ·exact⟨_,cap,rfl⟩
def ax(l:List Ord)(i:Nat):Ord:=l.getD i ⟨0,0,⟨#[]⟩,0,0,0,0,0,0,0,0,0,0⟩
theorem QC{l:List Ord}{i:Nat}(h:i<l.length):l[i]?=some (ax l i):=by
 unfold ax;rw[List.getD_eq_getElem?_getD,List.getElem?_eq_getElem h];rfl
theorem O0{l:List Ord}{i:Nat}{o:Ord}(h:l[i]?=some o):ax l i=o:=by
 unfold ax;rw[List.getD_eq_getElem?_getD,h];rfl
def oi:Option Nat->Int
 | some k=>k
 | none=>-1
def jI(l:List ByteArray)(s:ByteArray):Bool:=l.any (fun x=>decide (x=s))
theorem qY{l:List ByteArray}{s:ByteArray}{i:Nat}(h:l[i]?=some s):jI l s=true:=List.any_eq_true.2 ⟨s,List.mem_of_getElem? h,by simp⟩
def iU(l:List Ord)(id:Int):Option Nat:=l.findIdx? (fun o=>o.id == id)
def lJ(o:iT)(x:Ord):Bool:=!(x.aO == 0) && decide (x.sym=o.sym) && !(x.side == o.side) && jc o.kind o.side o.af x.af
open Go.Proofs Go.Shelf
def G9:Go.Shelf.Ren:=⟨fun | 137=>88 | 217=>132 | 266=>160 | n=>n,fun | 9=>9 | 5=>5 | 3=>3 | n=>n,fun | n=>n⟩
theorem U9:Go.Proofs.Lays.n137 Tryz.prog G9:={
 mixed:=by kernel_rfl
 f137:=Tryz.func88.trans (congrArg some (by kernel_rfl))
 f217:=Tryz.func132.trans (congrArg some (by kernel_rfl))
 f266:=Tryz.func160.trans (congrArg some (by kernel_rfl))
 t3:=Tryz.underlying3
 a3:=Tryz.isAgg3
 z3:=Tryz.sizeOf3
 v3:=Tryz.zeroValue3
 t5:=Tryz.underlying5
 a5:=Tryz.isAgg5
 z5:=Tryz.sizeOf5
 v5:=Tryz.zeroValue5
 t9:=Tryz.underlying9
 a9:=Tryz.isAgg9
 z9:=Tryz.sizeOf9
 v9:=Tryz.zeroValue9 }
open Go.RowKit in
theorem NQ(s:ByteArray)(c:Int)(w:World) :
 CT 88 #[.string s,.int .u8 c] w fun e w'=>e=.returned (II (Lib.indexByte s.data.toList c.toNat.toUInt8))/\w'=w:=Any.strings_IndexByte U9 s c w
def Hf:Go.Shelf.Ren:=⟨fun | 172=>134 | 244=>162 | 245=>163 | 247=>192 | 279=>193 | 280=>194 | 281=>195 | 282=>196 | 287=>222 | 316=>84 | 171=>115 | 205=>223 | 321=>235 | 322=>236 | 243=>148 | 246=>174 | 283=>207 | 284=>208 | 285=>209 | 286=>210 | 129=>188 | 317=>226 | 318=>227 | 319=>228 | 320=>229 | 337=>237 | 338=>238 | n=>n,fun | 9=>9 | 3=>3 | 75=>196 | 76=>197 | 4=>4 | 5=>5 | 167=>256 | 37=>98 | 0=>0 | 85=>257 | 2=>2 | 168=>259 | 53=>253 | 175=>281 | 46=>223 | 210=>284 | 127=>191 | 145=>294 | 143=>292 | 21=>21 | 171=>268 | 173=>270 | 212=>287 | 51=>251 | 20=>20 | 213=>288 | 232=>301 | 233=>302 | 80=>70 | n=>n,fun | 15=>1 | 16=>2 | 17=>3 | 18=>6 | 19=>7 | n=>n⟩
theorem Ve:Go.Proofs.Lays.n172 Tryz.prog Hf:={
 mixed:=by kernel_rfl
 f129:=Tryz.func188.trans (congrArg some (by kernel_rfl))
 f171:=Tryz.func115.trans (congrArg some (by kernel_rfl))
 f172:=Tryz.func134.trans (congrArg some (by kernel_rfl))
 f205:=Tryz.func223.trans (congrArg some (by kernel_rfl))
 f243:=Tryz.func148.trans (congrArg some (by kernel_rfl))
 f244:=Tryz.func162.trans (congrArg some (by kernel_rfl))
 f245:=Tryz.func163.trans (congrArg some (by kernel_rfl))
 f246:=Tryz.func174.trans (congrArg some (by kernel_rfl))
 f247:=Tryz.func192.trans (congrArg some (by kernel_rfl))
 f279:=Tryz.func193.trans (congrArg some (by kernel_rfl))
 f280:=Tryz.func194.trans (congrArg some (by kernel_rfl))
 f281:=Tryz.func195.trans (congrArg some (by kernel_rfl))
 f282:=Tryz.func196.trans (congrArg some (by kernel_rfl))
 f283:=Tryz.func207.trans (congrArg some (by kernel_rfl))
 f284:=Tryz.func208.trans (congrArg some (by kernel_rfl))
 f285:=Tryz.func209.trans (congrArg some (by kernel_rfl))
 f286:=Tryz.func210.trans (congrArg some (by kernel_rfl))
 f287:=Tryz.func222.trans (congrArg some (by kernel_rfl))
 f316:=Tryz.func84.trans (congrArg some (by kernel_rfl))
 f317:=Tryz.func226.trans (congrArg some (by kernel_rfl))
 f318:=Tryz.func227.trans (congrArg some (by kernel_rfl))
 f319:=Tryz.func228.trans (congrArg some (by kernel_rfl))
 f320:=Tryz.func229.trans (congrArg some (by kernel_rfl))
 f321:=Tryz.func235.trans (congrArg some (by kernel_rfl))
 f322:=Tryz.func236.trans (congrArg some (by kernel_rfl))
 f337:=Tryz.func237.trans (congrArg some (by kernel_rfl))
 f338:=Tryz.func238.trans (congrArg some (by kernel_rfl))
 t0:=Tryz.underlying0
 a0:=Tryz.isAgg0
 z0:=Tryz.sizeOf0
 v0:=Tryz.zeroValue0
 t2:=Tryz.underlying2
 a2:=Tryz.isAgg2
 z2:=Tryz.sizeOf2
 v2:=Tryz.zeroValue2
 t3:=Tryz.underlying3
 a3:=Tryz.isAgg3
 z3:=Tryz.sizeOf3
 v3:=Tryz.zeroValue3
 t4:=Tryz.underlying4
 a4:=Tryz.isAgg4
 z4:=Tryz.sizeOf4
 v4:=Tryz.zeroValue4
 t5:=Tryz.underlying5
 a5:=Tryz.isAgg5
 z5:=Tryz.sizeOf5
 v5:=Tryz.zeroValue5
 t9:=Tryz.underlying9
 a9:=Tryz.isAgg9
 z9:=Tryz.sizeOf9
 v9:=Tryz.zeroValue9
 t20:=Tryz.underlying20
 a20:=Tryz.isAgg20
 z20:=Tryz.sizeOf20
 v20:=Tryz.zeroValue20
 t21:=Tryz.underlying21
 a21:=Tryz.isAgg21
 z21:=Tryz.sizeOf21
 v21:=Tryz.zeroValue21
 t37:=Tryz.underlying98
 a37:=Tryz.isAgg98
 z37:=Tryz.sizeOf98
 v37:=Tryz.zeroValue98
 t46:=Tryz.underlying223
 a46:=Tryz.isAgg223
 z46:=Tryz.sizeOf223
 v46:=Tryz.zeroValue223
 t51:=Tryz.underlying251
 a51:=Tryz.isAgg251
 z51:=Tryz.sizeOf251
 v51:=Tryz.zeroValue251
 t53:=Tryz.underlying253
 a53:=Tryz.isAgg253
 z53:=Tryz.sizeOf253
 v53:=Tryz.zeroValue253
 t75:=Tryz.underlying196
 a75:=Tryz.isAgg196
 z75:=Tryz.sizeOf196
 v75:=Tryz.zeroValue196
 t76:=Tryz.underlying197
 a76:=Tryz.isAgg197
 z76:=Tryz.sizeOf197
 v76:=Tryz.zeroValue197
 t85:=Tryz.underlying257
 a85:=Tryz.isAgg257
 z85:=Tryz.sizeOf257
 v85:=Tryz.zeroValue257
 t127:=Tryz.underlying191
 a127:=Tryz.isAgg191
 z127:=Tryz.sizeOf191
 v127:=Tryz.zeroValue191
 t143:=Tryz.underlying292
 a143:=Tryz.isAgg292
 z143:=Tryz.sizeOf292
 v143:=Tryz.zeroValue292
 t145:=Tryz.underlying294
 a145:=Tryz.isAgg294
 z145:=Tryz.sizeOf294
 v145:=Tryz.zeroValue294
 t167:=Tryz.underlying256
 a167:=Tryz.isAgg256
 z167:=Tryz.sizeOf256
 v167:=Tryz.zeroValue256
 t168:=Tryz.underlying259
 a168:=Tryz.isAgg259
 z168:=Tryz.sizeOf259
 v168:=Tryz.zeroValue259
 t171:=Tryz.underlying268
 a171:=Tryz.isAgg268
 z171:=Tryz.sizeOf268
 v171:=Tryz.zeroValue268
 t173:=Tryz.underlying270
 a173:=Tryz.isAgg270
 z173:=Tryz.sizeOf270
 v173:=Tryz.zeroValue270
 t175:=Tryz.underlying281
 a175:=Tryz.isAgg281
 z175:=Tryz.sizeOf281
 v175:=Tryz.zeroValue281
 t210:=Tryz.underlying284
 a210:=Tryz.isAgg284
 z210:=Tryz.sizeOf284
 v210:=Tryz.zeroValue284
 t212:=Tryz.underlying287
 a212:=Tryz.isAgg287
 z212:=Tryz.sizeOf287
 v212:=Tryz.zeroValue287
 t213:=Tryz.underlying288
 a213:=Tryz.isAgg288
 z213:=Tryz.sizeOf288
 t232:=Tryz.underlying301
 a232:=Tryz.isAgg301
 z232:=Tryz.sizeOf301
 v232:=Tryz.zeroValue301
 t233:=Tryz.underlying302
 a233:=Tryz.isAgg302
 z233:=Tryz.sizeOf302
 v233:=Tryz.zeroValue302
 g15:=by kernel_rfl
 g16:=by kernel_rfl
 g17:=by kernel_rfl
 g18:=by kernel_rfl
 g19:=by kernel_rfl }
open Go.RowKit in
theorem acd(s:ByteArray)(n:Int)(hl:s.size<=18)(h:Lib.atoi s.data.toList=some n)(w:World) :
 CT 134 #[.string s] w fun e w'=>e=.returned (.tuple #[II n,.nilIface])/\∃t,w'=Lib.bytesWorld w 5 t:=Any.strconv_Atoi Ve s n hl h w
def He:Go.Shelf.Ren:=⟨fun | 149=>55 | 222=>86 | n=>n,fun | 9=>9 | 5=>5 | 3=>3 | 4=>4 | n=>n,fun | n=>n⟩
theorem Vd:Go.Proofs.Lays.n149 Tryz.prog He:={
 mixed:=by kernel_rfl
 f149:=Tryz.func55.trans (congrArg some (by kernel_rfl))
 f222:=Tryz.func86.trans (congrArg some (by kernel_rfl))
 t3:=Tryz.underlying3
 a3:=Tryz.isAgg3
 z3:=Tryz.sizeOf3
 v3:=Tryz.zeroValue3
 t4:=Tryz.underlying4
 a4:=Tryz.isAgg4
 z4:=Tryz.sizeOf4
 v4:=Tryz.zeroValue4
 t5:=Tryz.underlying5
 a5:=Tryz.isAgg5
 z5:=Tryz.sizeOf5
 v5:=Tryz.zeroValue5
 t9:=Tryz.underlying9
 a9:=Tryz.isAgg9
 z9:=Tryz.sizeOf9
 v9:=Tryz.zeroValue9 }
open Go.RowKit Go.Lib in
theorem uu(s:ByteArray)(c:Int)(hs:s.size<4611686018427387904)(w:World) :
 CT 55 #[.string s,.int .u8 c] w fun e w'=>e=.returned (II (Lib.lastIndexByte s c))/\w'=w:=Any.strings_LastIndexByte Vd s c hs w
def G8:Go.Shelf.Ren:=⟨fun | 102=>58 | 209=>97 | 207=>135 | n=>n,fun | 9=>9 | 4=>4 | 3=>3 | n=>n,fun | n=>n⟩
theorem U8:Go.Proofs.Lays.n102 Tryz.prog G8:={
 mixed:=by kernel_rfl
 f102:=Tryz.func58.trans (congrArg some (by kernel_rfl))
 f207:=Tryz.func135.trans (congrArg some (by kernel_rfl))
 f209:=Tryz.func97.trans (congrArg some (by kernel_rfl))
 t3:=Tryz.underlying3
 a3:=Tryz.isAgg3
 z3:=Tryz.sizeOf3
 v3:=Tryz.zeroValue3
 t4:=Tryz.underlying4
 a4:=Tryz.isAgg4
 z4:=Tryz.sizeOf4
 v4:=Tryz.zeroValue4
 t9:=Tryz.underlying9
 a9:=Tryz.isAgg9
 z9:=Tryz.sizeOf9
 v9:=Tryz.zeroValue9 }
open Go.RowKit Go.Lib in
theorem uw(s p:ByteArray)(w:World)(hs:s.size<=9223372036854775807) :
 CT 58 #[.string s,.string p] w fun e w'=>e=.returned (.string ⟨(Lib.trimSuffix s.data.toList p.data.toList).toArray⟩)/\w'=w:=Any.strings_TrimSuffix U8 s p w hs
def Ha:Go.Shelf.Ren:=⟨fun | 147=>133 | 221=>161 | 268=>189 | 138=>190 | 143=>191 | 195=>218 | 197=>219 | 218=>220 | 219=>221 | 260=>231 | 217=>132 | 225=>232 | 224=>233 | 267=>234 | 266=>160 | 314=>239 | n=>n,fun | 9=>9 | 3=>3 | 31=>106 | 4=>4 | 0=>0 | 105=>279 | 21=>21 | 5=>5 | 46=>223 | 119=>295 | 139=>298 | 138=>297 | 146=>299 | 51=>251 | n=>n,fun | 1=>0 | 3=>4 | 4=>5 | n=>n⟩
theorem Vb:Go.Proofs.Lays.n147 Tryz.prog Ha:={
 mixed:=by kernel_rfl
 f138:=Tryz.func190.trans (congrArg some (by kernel_rfl))
 f143:=Tryz.func191.trans (congrArg some (by kernel_rfl))
 f147:=Tryz.func133.trans (congrArg some (by kernel_rfl))
 f195:=Tryz.func218.trans (congrArg some (by kernel_rfl))
 f197:=Tryz.func219.trans (congrArg some (by kernel_rfl))
 f217:=Tryz.func132.trans (congrArg some (by kernel_rfl))
 f218:=Tryz.func220.trans (congrArg some (by kernel_rfl))
 f219:=Tryz.func221.trans (congrArg some (by kernel_rfl))
 f221:=Tryz.func161.trans (congrArg some (by kernel_rfl))
 f224:=Tryz.func233.trans (congrArg some (by kernel_rfl))
 f225:=Tryz.func232.trans (congrArg some (by kernel_rfl))
 f260:=Tryz.func231.trans (congrArg some (by kernel_rfl))
 f266:=Tryz.func160.trans (congrArg some (by kernel_rfl))
 f267:=Tryz.func234.trans (congrArg some (by kernel_rfl))
 f268:=Tryz.func189.trans (congrArg some (by kernel_rfl))
 f314:=Tryz.func239.trans (congrArg some (by kernel_rfl))
 t0:=Tryz.underlying0
 a0:=Tryz.isAgg0
 z0:=Tryz.sizeOf0
 v0:=Tryz.zeroValue0
 t3:=Tryz.underlying3
 a3:=Tryz.isAgg3
 z3:=Tryz.sizeOf3
 v3:=Tryz.zeroValue3
 t4:=Tryz.underlying4
 a4:=Tryz.isAgg4
 z4:=Tryz.sizeOf4
 v4:=Tryz.zeroValue4
 t5:=Tryz.underlying5
 a5:=Tryz.isAgg5
 z5:=Tryz.sizeOf5
 v5:=Tryz.zeroValue5
 t9:=Tryz.underlying9
 a9:=Tryz.isAgg9
 z9:=Tryz.sizeOf9
 v9:=Tryz.zeroValue9
 t21:=Tryz.underlying21
 a21:=Tryz.isAgg21
 z21:=Tryz.sizeOf21
 v21:=Tryz.zeroValue21
 t31:=Tryz.underlying106
 a31:=Tryz.isAgg106
 z31:=Tryz.sizeOf106
 v31:=Tryz.zeroValue106
 t46:=Tryz.underlying223
 a46:=Tryz.isAgg223
 z46:=Tryz.sizeOf223
 v46:=Tryz.zeroValue223
 t51:=Tryz.underlying251
 a51:=Tryz.isAgg251
 z51:=Tryz.sizeOf251
 v51:=Tryz.zeroValue251
 t105:=Tryz.underlying279
 a105:=Tryz.isAgg279
 z105:=Tryz.sizeOf279
 v105:=Tryz.zeroValue279
 t119:=Tryz.underlying295
 a119:=Tryz.isAgg295
 z119:=Tryz.sizeOf295
 t138:=Tryz.underlying297
 a138:=Tryz.isAgg297
 z138:=Tryz.sizeOf297
 v138:=Tryz.zeroValue297
 t139:=Tryz.underlying298
 a139:=Tryz.isAgg298
 z139:=Tryz.sizeOf298
 v139:=Tryz.zeroValue298
 t146:=Tryz.underlying299
 a146:=Tryz.isAgg299
 z146:=Tryz.sizeOf299
 v146:=Tryz.zeroValue299
 g1:=by kernel_rfl
 g3:=by kernel_rfl
 g4:=by kernel_rfl }
open Go.RowKit Go.Lib in
theorem XX(s sep:ByteArray)(n:Nat)(m:Int)(w:World)(hs:s.size<4294967281)(hm:w.cell? ⟨0,0,none⟩=some (II m))(h1:1<=sep.size)(hn:1<=n)(hn63:n<=9223372036854775807) :
 CT 133 #[.string s,.string sep,II n] w fun e w' =>
  e=.returned (.slice (some ⟨w.heap.size,0,none⟩) (Lib.splitB sep 0 (min n (s.size+1)-1) s).length (min n (s.size+1)))/\w'=w.alloc (.cells (Lib.cellsOf (Lib.splitB sep 0 (min n (s.size+1)-1) s) (min n (s.size+1))) 9):=Any.strings_SplitN Vb (by kernel_rfl) s sep n m w hs hm h1 hn hn63
end Go.Proofs.YtigaphnafnpfnaaGreatDoor
