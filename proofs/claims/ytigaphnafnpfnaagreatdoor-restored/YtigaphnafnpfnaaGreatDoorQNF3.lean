import Derived.Test.YtigaphnafnpfnaaGreatDoorQNF1
import Derived.Test.YtigaphnafnpfnaaGreatDoorQNJ6
import Derived.Lib.Split
import Derived.Lib.Atoi
import Derived.Lib.ItoaNum
import Derived.Lib.IndexBytes
set_option linter.unusedVariables false
set_option linter.unusedSimpArgs false
set_option maxHeartbeats 8000000
set_option maxRecDepth 100000
namespace Go.Proofs.YtigaphnafnpfnaaGreatDoor
open Go.RowKit Go.Maps
attribute [local go_sem ↓] Go.wp_at_zero Go.wp_at_succ
theorem oU{B:Bk}{om:Nat->Ord}{s i:Nat}(hinj:ry (B.n s) (B.h s))(hi:i<B.n s):∀k,k<(B.leave om s i).n s->∃k',k'<B.n s/\(B.leave om s i).h s k=B.h s k'/\B.h s k'≠B.h s i:=by
 intro k hk;simp only[Bk.leave,ai]at hk ⊢;have h0:ry (B.n s-1+1) (B.h s):=by rw[show B.n s-1+1=B.n s by omega];exact hinj
 obtain⟨⟨k',hk',e⟩,hne⟩:=(jY (lt:=fP om) (B.h s) i (n:=B.n s-1) (by omega) (h0.qp (by omega)) _).1 ⟨k,hk,rfl⟩;exact⟨k',by omega,e,by rw[<-e];exact hne⟩
theorem JC(G:Lg)(a b:List dY):(G.aX a).aX b=G.aX (a++b):=by simp[Lg.aX]
def cZ(V:aS)(i b:Nat)(q:Int):Nat->Ord:=aQ (aQ V.om b (fM (V.om b) q)) b { fM (V.om b) q with place:=wrap64 ((V.B i).places+1) }
theorem IK(bv:Nat)(N E:Int)(again:Bool)(po:Option Addr)(w:World)(hE:E≠0)(h:∀W,aj aJ w W->CT 71 #[PP bv,II N] W fun e w'=>e=.returned (.tuple #[.pointer po,II E])/\aj aJ W w') :
 CT 39 #[PP bv,II N,.bool again] w fun e w'=>e=.returned (II E)/\aj aJ w w':=by
 have e0:(E != 0)=true:=by simp[hE]
 have k0:aj aJ w (w.alloc (.cells #[PP bv] 35)):=(aj.refl aJ w).alloc _;have H:=au (h _ k0);clear hE h;go_enter Tryz.func39,Tryz.ntmps39;go_wp2_with fail;refine (ae H).mono ?_;rintro e w1 ⟨rfl,k1⟩;go_wp2;go_ret;exact⟨rfl,(k0.trans k1).alloc _⟩
theorem zu(bv:Nat)(N E af:Int)(po:Option Addr)(w:World)(hE:E≠0)(h:∀W,aj aJ w W->CT 71 #[PP bv,II N] W fun e w'=>e=.returned (.tuple #[.pointer po,II E])/\aj aJ W w') :
 CT 40 #[PP bv,II N,II af] w fun e w'=>e=.returned (II E)/\aj aJ w w':=by
 have e0:(E != 0)=true:=by simp[hE]
 have k0:aj aJ w (w.alloc (.cells #[PP bv] 35)):=(aj.refl aJ w).alloc _;have H:=au (h _ k0);clear hE h;go_enter Tryz.func40,Tryz.ntmps40;go_wp2_with fail;refine (ae H).mono ?_;rintro e w1 ⟨rfl,k1⟩;go_wp2;go_ret;exact⟨rfl,(k0.trans k1).alloc _⟩
open Go.RowKit
def o7(q:Bool)(t:TypeId):Prop:=t=114\/t=54\/t=111\/t=3\/t=35\/t=52\/t=9\/t=56\/(q=true/\t=103)
def dY.sZ:dY->Bool
 | .jU _=>true
 | .iW _ _=>true
 | _=>false
def Zk(w:World)(bv:Nat)(id:Int)(lo:Nat)(fn:Fn)(cp:Array Value):Prop:=fn=.func 114/\∃H c,lo<=H/\cp=#[dD H,dD (H+1)]/\aA w H #[dD bv] 35/\aA w (H+1) c 52/\c[0]?=some (II id)
def Zl(w:World)(bv:Nat)(s:ByteArray)(lo:Nat)(fn:Fn)(cp:Array Value):Prop:=fn=.func 54/\∃H K,lo<=H/\lo<=K/\cp=#[dD H,dD K]/\aA w H #[dD bv] 35/\aA w K #[.string s] 9
def Zn(w:World)(bv:Nat)(t:Tr)(lo:Nat)(fn:Fn)(cp:Array Value):Prop:=fn=.func 211/\∃H,lo<=H/\cp=#[dD H,dD (H+1)]/\aA w H #[dD bv] 35/\aA w (H+1) t.cells.toArray 56
def Zi(w:World)(bv tb:Nat)(lo:Nat)(fn:Fn)(cp:Array Value):Prop:=fn=.func 74/\∃H K,lo<=H/\lo<=K/\cp=#[dD K,dD H]/\aA w H #[dD bv] 35/\aA w K #[dD tb] 103
def Zm(w:World)(bv tb:Nat)(p:Int)(lo:Nat)(fn:Fn)(cp:Array Value):Prop:=fn=.func 77/\∃H K J,lo<=H/\lo<=K/\lo<=J/\cp=#[dD H,dD K,dD J]/\aA w H #[dD bv] 35/\aA w K #[dD tb] 103/\aA w J #[II p] 3
def Zj(w:World)(bv:Nat)(lo:Nat)(fn:Fn)(cp:Array Value):Prop:=fn=.func 79/\∃H,lo<=H/\cp=#[dD H]/\aA w H #[dD bv] 35
def bU(w:World)(bv:Nat)(bk:Nat->Nat)(lo:Nat)(d:dY)(c:Value):Prop:=∃fn cp,c=.func fn #[] cp /\
 match d with
 | .gp b o=>jS w b o lo fn cp
 | .left b=>jo w (bk b) b lo fn cp
 | .fC b p=>lC w (bk b) b p lo fn cp
 | .entered id=>Zk w bv id lo fn cp
 | .di s=>Zl w bv s lo fn cp
 | .iZ t=>Zn w bv t lo fn cp
 | .jU tb=>Zi w bv tb lo fn cp
 | .iW tb p=>Zm w bv tb p lo fn cp
 | .closed=>Zj w bv lo fn cp
def nP(w:World)(lo:Nat)(q:Bool)(S:Nat->Prop):Prop:=∀b,S b->b<lo\/∀c t,aA w b c t->¬o7 q t
theorem nP.aF{w w':World}{lo:Nat}{q:Bool}{S:Nat->Prop}(h:nP w lo q S)(k:aj S w w'){b:Nat}{c:Array Value}{t:TypeId}(hb:aA w b c t)(hl:lo<=b)(ht:o7 q t):aA w' b c t:=by
 refine k.aF hb (fun hs=>?_);rcases h b hs with e | e
 ·omega
 ·exact e c t hb ht
theorem nP.non(w:World)(lo:Nat)(q:Bool):nP w lo q aJ:=fun b h=>h.elim
theorem nP.gK{w:World}{lo:Nat}{q:Bool}{S:Nat->Prop}(h:∀b,S b->∃c t,aA w b c t/\¬o7 q t):nP w lo q S:=fun b hb=>.inr (fun c t hc ht=>by
 obtain⟨c',t',hc',ht'⟩:=h b hb;unfold aA at hc hc';rw[hc]at hc';simp only[Option.some.injEq,Obj.cells.injEq]at hc';obtain⟨_,e,_⟩:=hc';subst e;exact ht' ht)
section
variable {w w' : World} {bv : Nat} {bk : Nat -> Nat} {lo : Nat} {d : dY} {c : Value} {q : Bool} {S : Nat -> Prop}
theorem bU.aC(h:bU w bv bk lo d c)(hq:d.sZ=true->q=true)(k:aj S w w')(o:nP w lo q S):bU w' bv bk lo d c:=by
 obtain⟨fn,cp,rfl,h⟩:=h;refine⟨fn,cp,rfl,?_⟩;cases d with
 | gp b od =>
   obtain⟨e,H,h0,e2,h1,h2⟩:=h;exact⟨e,H,h0,e2,o.aF k h1 h0 (.inl rfl),o.aF k h2 (by omega) (.inr (.inl rfl))⟩
 | left b =>
   obtain⟨e,H,h0,e2,h1,h2⟩:=h;exact⟨e,H,h0,e2,o.aF k h1 h0 (lN rfl),o.aF k h2 (by omega) (.inl rfl)⟩
 | fC b p =>
   obtain⟨e,H,h0,e2,⟨h1,h2⟩,h3⟩:=h;exact⟨e,H,h0,e2,⟨o.aF k h1 h0 (lN rfl),o.aF k h2 (by omega) (.inl rfl)⟩,o.aF k h3 (by omega) (jZ rfl)⟩
 | entered id =>
   obtain⟨e,H,cs,h0,e2,h1,h2,h3⟩:=h;exact⟨e,H,cs,h0,e2,o.aF k h1 h0 (qm rfl),o.aF k h2 (by omega) (ol5 rfl),h3⟩
 | di s =>
   obtain⟨e,H,K,h0,hK,e2,h1,h2⟩:=h;exact⟨e,H,K,h0,hK,e2,o.aF k h1 h0 (qm rfl),o.aF k h2 hK (ol6 rfl)⟩
 | iZ t =>
   obtain⟨e,H,h0,e2,h1,h2⟩:=h;exact⟨e,H,h0,e2,o.aF k h1 h0 (qm rfl),o.aF k h2 (by omega) (ol7 rfl)⟩
 | jU tb =>
   obtain⟨e,H,K,h0,hK,e2,h1,h2⟩:=h;exact⟨e,H,K,h0,hK,e2,o.aF k h1 h0 (qm rfl),o.aF k h2 hK (or8 ⟨hq rfl,rfl⟩)⟩
 | iW tb p =>
   obtain⟨e,H,K,J,h0,hK,hJ,e2,h1,h2,h3⟩:=h;exact⟨e,H,K,J,h0,hK,hJ,e2,o.aF k h1 h0 (qm rfl),o.aF k h2 hK (or8 ⟨hq rfl,rfl⟩),o.aF k h3 hJ (jZ rfl)⟩
 | closed =>
   obtain⟨e,H,h0,e2,h1⟩:=h;exact⟨e,H,h0,e2,o.aF k h1 h0 (qm rfl)⟩
end
structure iw(w:World)(bv:Nat)(bk:Nat->Nat)(lo:Nat)(q:Bool)(old:List (List Value))(nt:List dY)(dW:List Nat)(m:Lm)(cl:List Value):Prop where
 tb:m.tb=dW
 ac:m.ac.map Prod.snd=old++[cl]
 len:cl.length=nt.length
 sZ:∀d∈nt,d.sZ=true->q=true
 nH:∀(i:Nat) (d:dY) (c:Value),nt[i]?=some d->cl[i]?=some c->bU w bv bk lo d c
 tvl:∀d∈nt,d.sZ=true->∀g,m.tv.ownBlock=some g->g<lo
theorem iw.aC{w w':World}{bv:Nat}{bk:Nat->Nat}{lo:Nat}{q:Bool}{old:List (List Value)}{nt:List dY}{dW:List Nat}{m:Lm}{cl:List Value}(h:iw w bv bk lo q old nt dW m cl){S:Nat->Prop}(k:aj S w w')(o:nP w lo q S):iw w' bv bk lo q old nt dW m cl :=
 ⟨h.tb,h.ac,h.len,h.sZ,fun i d c hd hc=>(h.nH i d c hd hc).aC (h.sZ d (List.mem_of_getElem? hd)) k o,h.tvl⟩
theorem iw.aB{w w':World}{bv:Nat}{bk:Nat->Nat}{lo:Nat}{q:Bool}{old:List (List Value)}{nt:List dY}{dW:List Nat}{m:Lm}{cl:List Value}(h:iw w bv bk lo q old nt dW m cl)(k:aj aJ w w'):iw w' bv bk lo q old nt dW m cl:=h.aC k (nP.non w lo q)
theorem iw.U3{w:World}{bv:Nat}{bk:Nat->Nat}{lo:Nat}{q:Bool}{old:List (List Value)}{nt:List dY}{dW:List Nat}{m m':Lm}{cl:List Value}(h:iw w bv bk lo q old nt dW m cl)(e:m'.ac=m.ac)(ht:∀d∈nt,d.sZ=true->m'.tv=m.tv):iw w bv bk lo q old nt m'.tb m' cl:=⟨rfl,by rw[e];exact h.ac,h.len,h.sZ,h.nH,fun d hd hT g hg=>h.tvl d hd hT g (by rw[<-ht d hd hT];exact hg)⟩
theorem iw.more{w:World}{bv:Nat}{bk:Nat->Nat}{lo:Nat}{q:Bool}{old:List (List Value)}{nt ds:List dY}{dW:List Nat}{m m':Lm}{cl news:List Value}(h:iw w bv bk lo q old nt dW m cl)(htb:m'.tb=m.tb)(hac:m'.ac.map Prod.snd=old++[cl++news])(hl:news.length=ds.length)(hT:∀d∈ds,d.sZ=true->q=true)(hb:∀(i:Nat) (d:dY) (c:Value),ds[i]?=some d->news[i]?=some c->bU w bv bk lo d c)(zF:m'.tv=m.tv)(hV:∀d∈ds,d.sZ=true->∀g,m.tv.ownBlock=some g->g<lo):iw w bv bk lo q old (nt++ds) dW m' (cl++news):=by
 refine⟨by rw[htb];exact h.tb,hac,by rw[List.length_append,List.length_append,h.len,hl],fun d hd=>(List.mem_append.1 hd).elim (h.sZ d) (hT d),fun i d c hd hc=>?_,fun d hd hd2 g hg=>(List.mem_append.1 hd).elim (fun h1=>h.tvl d h1 hd2 g (by rw[<-zF];exact hg)) (fun h1=>hV d h1 hd2 g (by rw[<-zF];exact hg))⟩;by_cases hi:i<nt.length
 ·rw[List.getElem?_append_left hi]at hd;rw[List.getElem?_append_left (by rw[h.len];exact hi)]at hc;exact h.nH i d c hd hc
 ·rw[List.getElem?_append_right (by omega)]at hd;rw[List.getElem?_append_right (by rw[h.len];omega),h.len]at hc;exact hb _ d c hd hc
theorem Ov(bv bm bo:Nat)(G:Lg)(m:Lm)(line:ByteArray)(w:World)(hL:bG w bv bm bo G m)(hna:G.ud+G.na<3000000)(h0:0<line.size)(hl:line.size<=290)(hpl:G.pl=line) :
 CT 51 #[PP bv,.string line] w fun e w'=>e=.returned (.tuple #[]) /\
  ∃m',bG w' bv bm bo G.begun m'/\(∀b,m'.F b->m.F b\/w.heap.size<=b)/\aj (fun b=>b=bv\/m.av.ownBlock=some b\/m.jv.ownBlock=some b) w w'/\(m'.tb=m.tb/\m'.tv=m.tv)/\m'.ac.map Prod.snd=m.ac.map Prod.snd++[[]]:=by
 have HPl:=au hpl;clear hpl;obtain⟨n,hn⟩:=mf G.na;have hav:∃pa lU,m.av=.slice pa n lU:=by
  have hrow:=hL.aP.act.row;rw[hL.aP.act.len,hn]at hrow;exact JI hrow
 obtain⟨pa,lU,hav⟩:=hav;obtain⟨i0,hi0,hz0,hz1,hz2⟩:=Ub;have hmx:n+1<=maxLen:=by unfold maxLen;omega
 have sO:(n+1) * 24<=140737488355328:=by omega
 have HWr:=au (Fq bv bm bo G m (G.ud+G.na) line w hL hna h0 hl);obtain⟨HL,Y7,HN⟩:=eY hL hav hn;clear hL hav hn;go_enter Tryz.func51,Tryz.ntmps51;go_wp2_with (first
  | (go_at_call 44;refine (ae HWr).mono ?_;rintro e wq ⟨rfl,jv,jn,hLq,hFq,hkq⟩;have HLq:=au hLq;have HFq:=au hFq;have V4:=au hkq;have v5:CC wq bv 5 (.slice pa n lU):=(hLq.dC.cell 5).trans (by rw[<-ae Y7];rfl);have f5:=hLq.dC.frozen 5;have lv:=hLq.dC.lt;have hrow:wq.ownsRow 0 109 1 (.slice pa n lU) n (m.ac.map Prod.fst):=(by have hr:=hLq.aP.act.row;simp only at hr;rw[show m.ac.length=G.na from hLq.aP.act.len,ae HN,ae Y7]at hr;exact hr);have HR:=au hrow;clear hLq hFq hkq hrow)
  | (at_builtin;refine wpList_append_lies _ rfl _ _ 97 rfl 0 109 i0 (.slice none 0 0) 1 24 Tryz.underlying97 hi0 hz0 hz1 hz2 rfl (by decide) (.slice pa n lU) n _ rfl (aI (ae HR) ((aj.refl aJ wq).alloc _) (fun _ _ x=>x)) ⟨wq.heap.size,0,none⟩ 1 1 [.slice none 0 0] rfl rfl (World.news_of_block (aA.new wq #[.slice none 0 0] 109)) (by simp[Value.oneCell']) (by omega) hmx sO (by omega) (wq.heap.size+1) (by simp) ?_;intro g cap w2 hown2 hgrow hat hlt;have Ik:=au hown2;have HG2:=au hgrow;have HA2:=au hat;have b2:aA w2 bv (sU bm bo { m with jv:=jv,jn:=jn } G.day) 100:=(hgrow.block bv ((ae HLq).dC.alloc _).lt (fun e=>(ae HLq).L6 (jZ (by show m.av.ownBlock=_;rw[ae Y7];exact e.symm)))).trans ((ae HLq).dC.alloc _);have v52:=b2.cell 5;have f52:=b2.frozen 5;simp only[sU]at v52;simp at v52;clear hown2 hgrow hat b2))
 go_end0;have k1:aj aJ wq (wq.alloc (.cells #[.slice none 0 0] 109)):=(aj.refl aJ wq).alloc _;have hg:=((ae HLq).aB k1).Xg (Nat.le_refl _) (ae HN) (ae Ik) (by show World.grownBy _ w2 m.av.ownBlock;rw[ae Y7];exact ae HG2) (by show m.av.ownBlock=_\/_;rw[ae Y7];exact ae HA2) (by simp);have kq:=ae V4;have hg1:=hg.1;rw[show (G.sF line).Sj=G.begun from by rw[<-ae HPl];rfl]at hg1;refine⟨rfl,_,hg1,fun b hb=>?_,?_,⟨rfl,rfl⟩,by simp⟩
 ·rcases hg.2.1 b hb with h | h
  ·rcases h with h | (h | h) | h | h
   ·exact .inl (.inl h)
   ·exact .inl (.inr (.inl (.inl h)))
   ·exact (ae HFq b h).imp_left (fun h=>.inr (.inl (.inr h)))
   ·exact .inl (lN h)
   ·exact .inl (DR h)
  ·have:=kq.size;exact .inr (by omega)
 ·exact (kq.mono (fun b h=>h.imp_right .inr)).trans ((k1.bI.trans hg.2.2).mono (fun b h=>h.imp_right .inl))
theorem XJ(bv bm bo:Nat)(G:Lg)(m:Lm)(ds:List dY)(news:List Value)(sb c kc:Nat)(w:World)(hL:bG w bv bm bo G m)(hna:0<G.na)(iJ:G.na<=3000000)(hnf:G.nt.length+c<1000000000)(hc:0<c)(hds:ds.length=c)(hl:news.length=c)(hnews:∀j u,news[j]?=some u->w.cell? ((⟨sb,0,none⟩:Addr).add j)=some u)(hone:∀u∈news,u.oneCell'=true) :
 CT 53 #[PP bv,.slice (some ⟨sb,0,none⟩) c kc] w fun e w'=>e=.returned (.tuple #[]) /\
  ∃m',bG w' bv bm bo (G.aX ds) m'/\(∀b,m'.F b->m.F b\/w.heap.size<=b)/\aj (fun b=>gY m.av m.ac b) w w'/\(∀b,gY m'.av m'.ac b->gY m.av m.ac b\/w.heap.size<=b)/\(m'.tb=m.tb/\m'.tv=m.tv)/\∃old cl,m.ac.map Prod.snd=old++[cl]/\m'.ac.map Prod.snd=old++[cl++news]:=by
 obtain⟨n,hn⟩:=mf G.na;have hA:=hL.aP.act;obtain⟨init,⟨hd,fs⟩,hac⟩:=zM m.ac (by rw[hA.len];exact hna);have hlen:=hA.len;rw[hac,List.length_append,hn]at hlen;simp at hlen;obtain⟨k,hk⟩:∃k,k+1=n:=⟨init.length,hlen⟩;have hrow:=hA.row;rw[hA.len,hn]at hrow;obtain⟨ga,RV,hav,_,hga⟩:=hrow.form (by omega);rcases hrow.2 with⟨e,_⟩ | ⟨g',cap',cur,e,h0,hg,h1,h2,h3,h4⟩
 ·rw[hav]at e;simp at e
 have ee:=hav.symm.trans e;simp only[Value.slice.injEq,Option.some.injEq,Addr.mk.injEq]at ee;obtain⟨⟨e1,_⟩,_,e2⟩:=ee;subst e1 e2;have hfs:=hA.last (hd,fs) (by rw[hac];simp);simp only at hfs;have hown:=hA.own (hd,fs) (by rw[hac];simp);simp only at hown;obtain⟨ha,hcap,hhd⟩:=JI hown;rw[hfs]at hhd;obtain⟨q,hq⟩:=mf fs.length;rw[hq]at hown hfs;rw[<-hfs]at hhd;rw[hhd]at hown;have hB:aA w ga cur 109:=hg;have hcell:cur[k]?=some hd:=by
  have:cur.toList.take (n * 1)=init.map Prod.fst++[hd]:=by rw[h4,hac];simp
  have h5:(cur.toList.take (n * 1))[k]?=some hd:=by
   rw[this];have e:k=(init.map Prod.fst).length:=by rw[List.length_map];omega
   rw[e];simp
  rw[List.getElem?_take_of_lt (by omega)]at h5
  simpa using h5
 have cK:w.cell? ⟨ga,k,none⟩=some (.slice ha q hcap):=by rw[hB.cell k,hcell,hhd]
 have v5:CC w bv 5 (.slice (some ⟨ga,0,none⟩) n RV):=(hL.dC.cell 5).trans (by rw[<-hav];rfl);have hkn:k<n:=by omega
 have hki:(n:Int)-1=(k:Int):=by omega
 have hkw:wrap64 (k:Int)=(k:Int):=by unfold wrap64;omega
 have hnd:(Value.slice ha q hcap).ownBlock≠some ga:=fun e=>by
  obtain⟨cs,hc⟩:=bK hown e;exact aA.ne hc hB (by decide) rfl
 have hnv:(Value.slice ha q hcap).ownBlock≠some bv:=fun e=>by
  obtain⟨cs,hc⟩:=bK hown e;exact aA.ne hc hL.dC (by decide) rfl
 have HNv:=au hnv;clear hnv;obtain⟨HOn,HNw,HL,HB⟩:=pJ hown hnews hL hB;have aaR:=au (show cur[k]?=some (.slice ha q hcap) by rw[hcell,hhd]);obtain⟨Ye,Y7,HN,HK,HHd,HQ,acH,HNd,HLn,hv⟩:=ZW hac hav hn hk hhd hq hone hnd hl hL.dC;have lv:=hL.dC.lt;have hnb:q+c<=2000000000:=by omega
 clear hown hnews hL hB hcell hac hav hn hk hhd hq hone hnd hg hA hlen hrow h0 h1 h2 h3 h4 e hfs hl hnf;go_enter Tryz.func53,Tryz.ntmps53;go_wp2;go_region_law (first | (refine Ac rfl (.tmp 22) (.tmp 23) rfl ha q hcap fs rfl (ae HOn) ⟨sb,0,none⟩ c kc news rfl (by rw[ae HLn];omega) (ae HNw) (ae acH) hc hnb w.heap.size rfl ?_;intro g cap w2 hown2 hgrow hat hlt;have Ik:=au hown2;have HG2:=au hgrow;have HA2:=au hat;have b2:aA w2 ga cur 109:=(hgrow.block ga hga (fun e=>ae HNd e.symm)).trans (ae HB);have c2:CC w2 ga k (.slice ha q hcap):=(b2.cell k).trans (ae aaR);have f2:=b2.frozen k;have v52:CC w2 bv 5 (.slice (some ⟨ga,0,none⟩) n RV):=(World.cell?_of_block (a:=⟨bv,5,none⟩) (hgrow.block bv lv (fun e=>ae HNv e.symm))).trans v5;clear hown2 hgrow hat b2))
 all_goals
  go_end0;have hh:=ae HHd;have hg:=((ae HL).aB (aj.refl aJ w).drew).Tt (ds:=ds) (c:=c) (fs:=fs) (news:=news) (ae Ye) (ae Y7) (ae HN) (ae HK) (by rw[ae HQ];exact ae Ik) (by rw[hh];exact ae HG2) (by rw[hh];exact ae HA2) rfl hds;rw[ae HQ]at hg;exact⟨rfl,_,hg.1,hg.2.1,(aj.refl _ w).drew.trans hg.2.2.1,hg.2.2.2,⟨rfl,rfl⟩,init.map Prod.snd,fs,by rw[ae Ye];simp,by simp⟩
theorem QA{t:TypeId}{q:Bool}(h:t=109\/t=1):¬o7 q t:=by
 rintro (e | e | e | e | e | e | e | e | ⟨_,e⟩) <;> (rw[e]at h;revert h;decide)
theorem Ie.off{w:World}{av:Value}{ac:List (Value × List Value)}{na nf:Nat}(h:Ie w av ac na nf)(lo:Nat)(q:Bool):nP w lo q (fun b=>gY av ac b):=nP.gK (fun b hb=>by
 obtain⟨c,t,hc,ht⟩:=h.gK hb;exact⟨c,t,hc,QA ht⟩)
theorem UO(bv bm bo:Nat)(G:Lg)(m:Lm)(ds:List dY)(news:List Value)(sb c kc:Nat)(w:World)(bk:Nat->Nat)(lo:Nat)(q:Bool)(old:List (List Value))(dW:List Nat)(cl:List Value)(hL:bG w bv bm bo G m)(hC:iw w bv bk lo q old G.nt dW m cl)(hT:∀d∈ds,d.sZ=true->q=true)(hB:∀(i:Nat) (d:dY) (c:Value),ds[i]?=some d->news[i]?=some c->bU w bv bk lo d c)(hna:0<G.na)(iJ:G.na<=3000000)(hnf:G.nt.length+c<1000000000)(hc:0<c)(hds:ds.length=c)(hl:news.length=c)(hnews:∀j u,news[j]?=some u->w.cell? ((⟨sb,0,none⟩:Addr).add j)=some u)(hone:∀u∈news,u.oneCell'=true)(hV:∀d∈ds,d.sZ=true->∀g,m.tv.ownBlock=some g->g<lo) :
 CT 53 #[PP bv,.slice (some ⟨sb,0,none⟩) c kc] w fun e w'=>e=.returned (.tuple #[]) /\
  ∃m',bG w' bv bm bo (G.aX ds) m'/\(∀b,m'.F b->m.F b\/w.heap.size<=b)/\aj (fun b=>gY m.av m.ac b) w w'/\(∀b,gY m'.av m'.ac b->gY m.av m.ac b\/w.heap.size<=b)/\iw w' bv bk lo q old (G.aX ds).nt dW m' (cl++news):=by
 have hO:=hL.aP.act.off lo q;refine (XJ bv bm bo G m ds news sb c kc w hL hna iJ hnf hc hds hl hnews hone).mono ?_;rintro e w' ⟨rfl,m',h1,h2,h3,h4,htb,old',cl',e1,e2⟩;have e3:old'++[cl']=old++[cl]:=by rw[<-e1,hC.ac]
 obtain⟨rfl,e4⟩:=List.append_inj' e3 rfl;obtain rfl:cl'=cl:=by simpa using e4
 exact⟨rfl,m',h1,h2,h3,h4,(hC.aC h3 hO).more htb.1 e2 (by rw[hl,hds]) hT (fun i d c hd hc=>(hB i d c hd hc).aC (hT d (List.mem_of_getElem? hd)) h3 hO) htb.2 hV⟩
theorem YT(bv bm bo:Nat)(G:Lg)(lm:Lm)(ds:List dY)(fv:Array Value)(w:World)(bk:Nat->Nat)(lo:Nat)(q:Bool)(old:List (List Value))(dW:List Nat)(cl:List Value)(hL:bG w bv bm bo G lm)(hC:iw w bv bk lo q old G.nt dW lm cl)(hT:∀d∈ds,d.sZ=true->q=true)(hB:∀(i:Nat) (d:dY) (c:Value),ds[i]?=some d->fv.toList[i]?=some c->bU w bv bk lo d c)(hna:0<G.na)(iJ:G.na<=3000000)(hnf:G.nt.length+fv.size<1000000000)(hc:0<fv.size)(hds:ds.length=fv.size)(hone:∀u∈fv.toList,u.oneCell'=true)(hV:∀d∈ds,d.sZ=true->∀g,lm.tv.ownBlock=some g->g<lo) :
 CT 53 #[PP bv,.slice (some ⟨w.heap.size,0,none⟩) fv.size fv.size] (w.alloc (.cells fv 1)) fun e w'=>e=.returned (.tuple #[]) /\
  ∃bM,bG w' bv bm bo (G.aX ds) bM/\(∀b,bM.F b->lm.F b\/w.heap.size<=b)/\aj (fun b=>gY lm.av lm.ac b) w w'/\(∀b,gY bM.av bM.ac b->gY lm.av lm.ac b\/w.heap.size<=b)/\iw w' bv bk lo q old (G.aX ds).nt dW bM (cl++fv.toList):=by
 have k1:aj aJ w (w.alloc (.cells fv 1)):=(aj.refl aJ w).alloc _;refine (UO bv bm bo G lm ds fv.toList w.heap.size fv.size fv.size (w.alloc (.cells fv 1)) bk lo q old dW cl (hL.aB k1) (hC.aB k1) hT (fun i d c hd hc=>(hB i d c hd hc).aC (hT d (List.mem_of_getElem? hd)) k1 (nP.non w lo q)) hna iJ hnf hc hds (by simp) (World.news_of_block (aA.new w fv 1)) hone hV).mono ?_;rintro e w' ⟨rfl,bM,h1,h2,h3,h4,h5⟩;exact⟨rfl,bM,h1,fun b hb=>(h2 b hb).imp_right (fun h=>by simp at h;omega),k1.bI.trans h3,fun b hb=>(h4 b hb).imp_right (fun h=>by simp at h;omega),h5⟩
theorem nJ(bv bm bo:Nat)(G:Lg)(lm:Lm)(d:dY)(fn:Fn)(cp:Array Value)(w:World)(bk:Nat->Nat)(lo:Nat)(q:Bool)(old:List (List Value))(dW:List Nat)(cl:List Value)(hL:bG w bv bm bo G lm)(hC:iw w bv bk lo q old G.nt dW lm cl)(hT:d.sZ=true->q=true)(hB:bU w bv bk lo d (.func fn #[] cp))(hna:0<G.na)(iJ:G.na<=3000000)(hnf:G.nt.length+1<1000000000)(hV:d.sZ=true->∀g,lm.tv.ownBlock=some g->g<lo:=by exact fun h=>absurd (show false=true from h) Bool.false_ne_true) :
 CT 53 #[PP bv,.slice (some ⟨w.heap.size,0,none⟩) 1 1] (w.alloc (.cells #[.func fn #[] cp] 1)) fun e w'=>e=.returned (.tuple #[]) /\
  ∃bM,bG w' bv bm bo (G.aX [d]) bM/\(∀b,bM.F b->lm.F b\/w.heap.size<=b)/\aj (fun b=>gY lm.av lm.ac b) w w'/\(∀b,gY bM.av bM.ac b->gY lm.av lm.ac b\/w.heap.size<=b)/\iw w' bv bk lo q old (G.aX [d]).nt dW bM (cl++[.func fn #[] cp]) :=
 YT bv bm bo G lm [d] #[.func fn #[] cp] w bk lo q old dW cl hL hC (fun x hx=>by rw[List.mem_singleton.1 hx];exact hT) (fun i d' c hd hc=>by
  cases i with
  | zero=>simp at hd hc;subst hd hc;exact hB
  | succ i=>simp at hd) hna iJ hnf (by simp) rfl (by simp[Value.oneCell']) (fun x hx=>by rw[List.mem_singleton.1 hx];exact hV)
theorem wJ(bv bm bo:Nat)(G:Lg)(lm:Lm)(d d2:dY)(fn uN:Fn)(cp cp2:Array Value)(w:World)(bk:Nat->Nat)(lo:Nat)(q:Bool)(old:List (List Value))(dW:List Nat)(cl:List Value)(hL:bG w bv bm bo G lm)(hC:iw w bv bk lo q old G.nt dW lm cl)(hT:d.sZ=true->q=true)(hT2:d2.sZ=true->q=true)(hB:bU w bv bk lo d (.func fn #[] cp))(hB2:bU w bv bk lo d2 (.func uN #[] cp2))(hna:0<G.na)(iJ:G.na<=3000000)(hnf:G.nt.length+2<1000000000)(hV:d.sZ=true->∀g,lm.tv.ownBlock=some g->g<lo:=by exact fun h=>absurd (show false=true from h) Bool.false_ne_true)(hV2:d2.sZ=true->∀g,lm.tv.ownBlock=some g->g<lo:=by exact fun h=>absurd (show false=true from h) Bool.false_ne_true) :
 CT 53 #[PP bv,.slice (some ⟨w.heap.size,0,none⟩) 2 2] (w.alloc (.cells #[.func fn #[] cp,.func uN #[] cp2] 1)) fun e w'=>e=.returned (.tuple #[]) /\
  ∃bM,bG w' bv bm bo (G.aX [d,d2]) bM/\(∀b,bM.F b->lm.F b\/w.heap.size<=b)/\aj (fun b=>gY lm.av lm.ac b) w w'/\(∀b,gY bM.av bM.ac b->gY lm.av lm.ac b\/w.heap.size<=b)/\iw w' bv bk lo q old (G.aX [d,d2]).nt dW bM (cl++[.func fn #[] cp,.func uN #[] cp2]) :=
 YT bv bm bo G lm [d,d2] #[.func fn #[] cp,.func uN #[] cp2] w bk lo q old dW cl hL hC (fun x hx=>by simp at hx;rcases hx with rfl | rfl;exact hT;exact hT2) (fun i d' c hd hc=>by
  match i with
  | 0=>simp at hd hc;subst hd hc;exact hB
  | 1=>simp at hd hc;subst hd hc;exact hB2
  | i+2=>simp at hd) hna iJ hnf (by simp) rfl (by simp[Value.oneCell']) (fun x hx=>by simp at hx;rcases hx with rfl | rfl;exact hV;exact hV2)
open Go.RowKit Go.Maps Go.Lib
theorem Vh{s s':ByteArray}(h:sl s=sl s'):s=s':=by
 simp only[sl,Lit.string.injEq]at h;exact ByteArray.ext (Array.ext' h)
def aS.di(V:aS)(s:ByteArray)(b:Nat)(bM:Lm):aS:={ V.list s b with lg:=V.lg.begun.aX [.di s],lm:=bM }
open Go
theorem Gg(c:UInt8):∀(w r:List UInt8),c∉w->Lib.indexByte (w++c :: r) c=(w.length:Int)
 | [],r,_=>by simp[Lib.indexByte]
 | a :: w,r,h=>by
   have h1:c∉w:=fun e=>h (List.mem_cons_of_mem _ e)
   have h2:¬(a == c)=true:=fun e=>h (by rw[<-beq_iff_eq.1 e];exact List.mem_cons_self)
   have ih:=Gg c w r h1;show (if (a == c)=true then (0:Int) else if (Lib.indexByte (w++c :: r) c == -1)=true then -1 else Lib.indexByte (w++c :: r) c+1)=_;rw[if_neg h2,ih,if_neg (fun e=>by have:=beq_iff_eq.1 e;omega)];simp
theorem Jk(c:UInt8):∀(w:List UInt8),c∉w->Lib.indexByte w c = -1
 | [],_=>rfl
 | a :: w,h=>by
   have h1:c∉w:=fun e=>h (List.mem_cons_of_mem _ e)
   have h2:¬(a == c)=true:=fun e=>h (by rw[<-beq_iff_eq.1 e];exact List.mem_cons_self)
   show (if (a == c)=true then (0:Int) else if (Lib.indexByte w c == -1)=true then -1 else Lib.indexByte w c+1)=_;rw[if_neg h2,Jk c w h1];rfl
def kJ:List (List UInt8)->List UInt8
 | []=>[]
 | w :: ws=>match ws with
   | []=>w
   | _ :: _=>w++32 :: kJ ws
theorem qV(w v:List UInt8)(ws:List (List UInt8)):kJ (w :: v :: ws)=w++32 :: kJ (v :: ws):=rfl
theorem J5:∀(ws:List (List UInt8)) (v:List UInt8),ws≠[]->kJ (ws++[v])=kJ ws++32 :: v
 | [],v,h=>absurd rfl h
 | [w],v,_=>rfl
 | w :: u :: ws,v,_=>by
   show w++32 :: kJ ((u :: ws)++[v])=_;rw[J5 (u :: ws) v (by simp),qV];simp
theorem Pm:∀(ws vs:List (List UInt8)),ws≠[]->vs≠[]->kJ (ws++vs)=kJ ws++32 :: kJ vs
 | [],vs,h,_=>absurd rfl h
 | [w],[],_,h=>absurd rfl h
 | [w],v :: vs,_,_=>rfl
 | w :: u :: ws,vs,_,h=>by
   show w++32 :: kJ ((u :: ws)++vs)=_;rw[Pm (u :: ws) vs (by simp) h,qV];simp
theorem CS:∀(ws:List (List UInt8)) (k:Nat),ws≠[]->ws.length<=k+1->(∀w∈ws,(32:UInt8)∉w)->Lib.splitK [32] 0 k (kJ ws)=ws
 | [],_,h,_,_=>absurd rfl h
 | [w],k,_,_,h=>by
   cases k with
   | zero=>rfl
   | succ k =>
     show (if (Lib.index w [32] == -1)=true then _ else _)=_;rw[Lib.index_one,Jk 32 w (h w (by simp))];rfl
 | w :: u :: ws,k,_,hk,h=>by
   cases k with
   | zero=>simp at hk
   | succ k =>
     rw[qV];show (if (Lib.index (w++32 :: kJ (u :: ws)) [32] == -1)=true then _ else (w++32 :: kJ (u :: ws)).take ((Lib.index (w++32 :: kJ (u :: ws)) [32]).toNat+0) :: Lib.splitK [32] 0 k ((w++32 :: kJ (u :: ws)).drop ((Lib.index (w++32 :: kJ (u :: ws)) [32]).toNat+([32]:List UInt8).length)))=_;rw[Lib.index_one,Gg 32 w _ (h w (by simp)),if_neg (fun e=>by have:=beq_iff_eq.1 e;omega)];have e1:((w.length:Int)).toNat=w.length:=by omega
     have e2:(w++32 :: kJ (u :: ws)).take (w.length+0)=w:=by simp
     have e3:(w++32 :: kJ (u :: ws)).drop (w.length+([32]:List UInt8).length)=kJ (u :: ws):=by
      show (w++32 :: kJ (u :: ws)).drop (w.length+1)=_;rw[List.drop_append];simp
     rw[e1,e2,e3,CS (u :: ws) k (by simp) (by simp at hk ⊢;omega) (fun x hx=>h x (List.mem_cons_of_mem _ hx))]
def fQ(w:List UInt8):ByteArray:=⟨w.toArray⟩
theorem iQ(w:List UInt8):(fQ w).data.toList=w:=rfl
theorem Yc:∀{a b:List ByteArray},a.map (·.data.toList)=b.map (·.data.toList)->a=b
 | [],[],_=>rfl
 | [],_ :: _,h=>by simp at h
 | _ :: _,[],h=>by simp at h
 | x :: a,y :: b,h=>by
   simp only[List.map_cons,List.cons.injEq]at h;have e:x=y:=by
    obtain⟨⟨x⟩⟩:=x;obtain⟨⟨y⟩⟩:=y;have:=h.1;simp at this;rw[this]
   rw[e,Yc h.2]
theorem NS(ws:List (List UInt8))(k:Nat)(h1:ws≠[])(h2:ws.length<=k+1)(h3:∀w∈ws,(32:UInt8)∉w):Lib.splitB ⟨#[32]⟩ 0 k (fQ (kJ ws))=ws.map fQ:=by
 apply Yc;rw[Lib.splitB_data];show Lib.splitK [32] 0 k (kJ ws)=_;rw[CS ws k h1 h2 h3,List.map_map];simp[Function.comp_def,fQ]
def dgt(b:UInt8):Prop:=48<=b.toNat/\b.toNat<=57
theorem FU{d:Nat}(h:d<10):dgt (UInt8.ofNat (48+d))/\Lib.digitVal (UInt8.ofNat (48+d))=some d:=by
 have e:(UInt8.ofNat (48+d)).toNat=48+d:=by
  rw[UInt8.toNat_ofNat'];exact Nat.mod_eq_of_lt (by show 48+d<256;omega)
 refine⟨⟨by omega,by omega⟩,?_⟩;unfold Lib.digitVal;rw[e,if_pos (by omega)];congr 1;omega
theorem Bd(u:Nat):∀b∈Lib.decDigits u,dgt b:=by
 induction u using Nat.strongRecOn with
 | ind u ih =>
   intro b hb;rw[Lib.decDigits]at hb;split at hb
   ·rename_i h;rw[List.mem_singleton.1 hb];exact (FU h).1
   ·rcases List.mem_append.1 hb with hb | hb
    ·exact ih (u / 10) (by omega) b hb
    ·rw[List.mem_singleton.1 hb];exact (FU (by omega)).1
theorem rE(d:Nat)(b:UInt8)(hb:Lib.digitVal b=some d):∀(l:List UInt8) (acc n:Nat),Lib.decFrom acc l=some n->Lib.decFrom acc (l++[b])=some (n * 10+d)
 | [],acc,n,h=>by
   simp only[Lib.decFrom,Option.some.injEq]at h;subst h;simp[Lib.decFrom,hb]
 | a :: l,acc,n,h=>by
   simp only[Lib.decFrom,List.cons_append]at h ⊢;cases ha:Lib.digitVal a with
   | none=>rw[ha]at h;simp at h
   | some x =>
     rw[ha]at h;simp only at h ⊢;exact rE d b hb l _ n h
theorem Bc(u:Nat):Lib.decFrom 0 (Lib.decDigits u)=some u:=by
 induction u using Nat.strongRecOn with
 | ind u ih =>
   rw[Lib.decDigits];split
   ·rename_i h;exact rE u _ (FU h).2 [] 0 0 rfl |>.trans (by simp)
   ·rw[rE (u % 10) _ (FU (by omega)).2 _ 0 (u / 10) (ih (u / 10) (by omega))];congr 1;omega
theorem Ew(u:Nat):Lib.decDigits u≠[]:=by
 rw[Lib.decDigits];split <;> simp
def gu(n:Nat):List UInt8:=Lib.decDigits n
theorem Jj(n:Nat):Lib.itoa (n:Int)=gu n:=by
 unfold Lib.itoa;rw[if_neg (by omega)];simp[gu]
theorem Jg(n:Nat):∀b∈gu n,dgt b:=Bd n
theorem Ql(n:Nat):(32:UInt8)∉gu n:=fun h=>by
 have h2:=(Jg n _ h).1;revert h2;decide
theorem Qk(n:Nat):(10:UInt8)∉gu n:=fun h=>by
 have h2:=(Jg n _ h).1;revert h2;decide
theorem PL(n:Nat):Lib.atoi (gu n)=some (n:Int):=by
 have hd:=Bc n;have hne:=Ew n;have hg:=Bd n;unfold gu;generalize Lib.decDigits n=l at *;cases l with
 | nil=>exact absurd rfl hne
 | cons b r =>
   have hb:=hg b (by simp);have n1:¬(b == 45)=true:=fun e=>by rw[beq_iff_eq.1 e]at hb;exact absurd hb.1 (by decide)
   have n2:¬(b == 43)=true:=fun e=>by rw[beq_iff_eq.1 e]at hb;exact absurd hb.1 (by decide)
   show (if (b == 45)=true then _ else if (b == 43)=true then _ else (Lib.decNat (b :: r)).map fun (m:Nat)=>(m:Int))=_;rw[if_neg n1,if_neg n2];unfold Lib.decNat;simp[hd]
theorem Jh{n:Nat}(h:n<1000000000):(gu n).length<=9:=by
 unfold gu;rw[Lib.decDigits_length];by_cases h0:Lib.nDigits n<=9
 ·exact h0
 ·exfalso;have key:∀(k u:Nat),k+1<=Lib.nDigits u->10 ^ k<=u\/k=0:=by
   intro k
   induction k with
   | zero=>intro u _;exact .inr rfl
   | succ k ih =>
     intro u hu;left;by_cases hs:u<10
     ·rw[Lib.nDigits_small hs]at hu;omega
     ·rw[Lib.nDigits_big hs]at hu;rcases ih (u / 10) (by omega) with h | h
      ·rw[Nat.pow_succ];omega
      ·subst h;simp;omega
  rcases key 9 n (by omega) with h | h
  ·exact absurd (show (1000000000:Nat)<=n from h) (by omega)
  ·omega
end Go.Proofs.YtigaphnafnpfnaaGreatDoor
