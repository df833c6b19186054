import Derived.Test.YtigaphnafnpfnaaGreatDoorQVC4
import Derived.Laws.RangeString
import Derived.LoopN
import Derived.Test.YtigaphnafnpfnaaGreatDoorQVE10
set_option linter.unusedVariables false
set_option linter.unusedSimpArgs false
set_option maxHeartbeats 8000000
set_option maxRecDepth 100000
namespace Go.Proofs.YtigaphnafnpfnaaGreatDoor
open Go.RowKit Go.Maps
attribute [local go_sem ↓] Go.wp_at_zero Go.wp_at_succ
theorem nG{B:Bk}{om:Nat->Ord}{s i:Nat}(hinj:qf (B.n s) (B.h s))(hi:i<B.n s):∀k,k<(B.leave om s i).n s->∃k',k'<B.n s/\(B.leave om s i).h s k=B.h s k'/\B.h s k'≠B.h s i:=by
 intro k hk
 simp only[Bk.leave,aj]at hk ⊢
 have h0:qf (B.n s-1+1) (B.h s):=by rw[show B.n s-1+1=B.n s by omega];exact hinj
 obtain⟨⟨k',hk',e⟩,hne⟩:=(jB (lt:=fG om) (B.h s) i (n:=B.n s-1) (by omega) (h0.oP (by omega)) _).1 ⟨k,hk,rfl⟩
 exact⟨k',by omega,e,by rw[<-e];exact hne⟩
theorem Gy(G:Lg)(a b:List dS):(G.aV a).aV b=G.aV (a++b):=by simp[Lg.aV]
def bY(V:aQ)(i b:Nat)(q:Int):Nat->Ord:=aN (aN V.om b (fF (V.om b) q)) b { fF (V.om b) q with place:=wrap64 ((V.B i).places+1) }
theorem FI(bv:Nat)(N E:Int)(again:Bool)(po:Option Addr)(w:World)(hE:E≠0)(h:∀W,au aP w W->Calls Tryz.prog 71 #[.pointer (some ⟨bv,0,none⟩),.int .i64 N] W fun e w'=>e=.returned (.tuple #[.pointer po,.int .i64 E])/\au aP W w') :
 Calls Tryz.prog 39 #[.pointer (some ⟨bv,0,none⟩),.int .i64 N,.bool again] w fun e w'=>e=.returned (.int .i64 E)/\au aP w w':=by
 have e0:(E != 0)=true:=by simp[hE]
 have k0:au aP w (w.alloc (.cells #[.pointer (some ⟨bv,0,none⟩)] 35)):=(au.refl aP w).alloc _
 have H:=ai (h _ k0)
 clear hE h
 go_enter Tryz.func39,Tryz.ntmps39
 go_wp2_with fail
 refine (ae H).mono ?_
 rintro e w1 ⟨rfl,k1⟩
 go_wp2
 go_ret
 exact⟨rfl,(k0.trans k1).alloc _⟩
theorem xQ(bv:Nat)(N E af:Int)(po:Option Addr)(w:World)(hE:E≠0)(h:∀W,au aP w W->Calls Tryz.prog 71 #[.pointer (some ⟨bv,0,none⟩),.int .i64 N] W fun e w'=>e=.returned (.tuple #[.pointer po,.int .i64 E])/\au aP W w') :
 Calls Tryz.prog 40 #[.pointer (some ⟨bv,0,none⟩),.int .i64 N,.int .i64 af] w fun e w'=>e=.returned (.int .i64 E)/\au aP w w':=by
 have e0:(E != 0)=true:=by simp[hE]
 have k0:au aP w (w.alloc (.cells #[.pointer (some ⟨bv,0,none⟩)] 35)):=(au.refl aP w).alloc _
 have H:=ai (h _ k0)
 clear hE h
 go_enter Tryz.func40,Tryz.ntmps40
 go_wp2_with fail
 refine (ae H).mono ?_
 rintro e w1 ⟨rfl,k1⟩
 go_wp2
 go_ret
 exact⟨rfl,(k0.trans k1).alloc _⟩
open Go.RowKit
def nK(q:Bool)(t:TypeId):Prop:=t=114\/t=54\/t=111\/t=3\/t=35\/t=52\/t=9\/t=56\/(q=true/\t=103)
def dS.qP:dS->Bool
 | .jw _=>true
 | .iE _ _=>true
 | _=>false
def Ws(w:World)(bv:Nat)(id:Int)(lo:Nat)(fn:Fn)(cp:Array Value):Prop:=fn=.func 114/\∃H c,lo<=H/\cp=#[dn H,dn (H+1)]/\az w H #[dn bv] 35/\az w (H+1) c 52/\c[0]?=some (.int .i64 id)
def Wu(w:World)(bv:Nat)(s:ByteArray)(lo:Nat)(fn:Fn)(cp:Array Value):Prop:=fn=.func 54/\∃H K,lo<=H/\lo<=K/\cp=#[dn H,dn K]/\az w H #[dn bv] 35/\az w K #[.string s] 9
def Wx(w:World)(bv:Nat)(t:Tr)(lo:Nat)(fn:Fn)(cp:Array Value):Prop:=fn=.func 211/\∃H,lo<=H/\cp=#[dn H,dn (H+1)]/\az w H #[dn bv] 35/\az w (H+1) t.cells.toArray 56
def Wp(w:World)(bv tb:Nat)(lo:Nat)(fn:Fn)(cp:Array Value):Prop:=fn=.func 74/\∃H K,lo<=H/\lo<=K/\cp=#[dn K,dn H]/\az w H #[dn bv] 35/\az w K #[dn tb] 103
def Wv(w:World)(bv tb:Nat)(p:Int)(lo:Nat)(fn:Fn)(cp:Array Value):Prop:=fn=.func 77/\∃H K J,lo<=H/\lo<=K/\lo<=J/\cp=#[dn H,dn K,dn J]/\az w H #[dn bv] 35/\az w K #[dn tb] 103/\az w J #[.int .i64 p] 3
def Wq(w:World)(bv:Nat)(lo:Nat)(fn:Fn)(cp:Array Value):Prop:=fn=.func 79/\∃H,lo<=H/\cp=#[dn H]/\az w H #[dn bv] 35
def bJ(w:World)(bv:Nat)(bk:Nat->Nat)(lo:Nat)(d:dS)(c:Value):Prop:=∃fn cp,c=.func fn #[] cp /\
 match d with
 | .fA b o=>jr w b o lo fn cp
 | .left b=>iZ w (bk b) b lo fn cp
 | .eQ b p=>jU w (bk b) b p lo fn cp
 | .entered id=>Ws w bv id lo fn cp
 | .cO s=>Wu w bv s lo fn cp
 | .iH t=>Wx w bv t lo fn cp
 | .jw tb=>Wp w bv tb lo fn cp
 | .iE tb p=>Wv w bv tb p lo fn cp
 | .closed=>Wq w bv lo fn cp
def l9(w:World)(lo:Nat)(q:Bool)(S:Nat->Prop):Prop:=∀b,S b->b<lo\/∀c t,az w b c t->¬nK q t
theorem l9.aB{w w':World}{lo:Nat}{q:Bool}{S:Nat->Prop}(h:l9 w lo q S)(k:au S w w'){b:Nat}{c:Array Value}{t:TypeId}(hb:az w b c t)(hl:lo<=b)(ht:nK q t):az w' b c t:=by
 refine k.aB hb (fun hs=>?_)
 rcases h b hs with e|e
 ·omega
 ·exact e c t hb ht
theorem l9.non(w:World)(lo:Nat)(q:Bool):l9 w lo q aP:=fun b h=>h.elim
theorem l9.fZ{w:World}{lo:Nat}{q:Bool}{S:Nat->Prop}(h:∀b,S b->∃c t,az w b c t/\¬nK q t):l9 w lo q S:=fun b hb=>.inr (fun c t hc ht=>by
 obtain⟨c',t',hc',ht'⟩:=h b hb
 unfold az at hc hc'
 rw[hc]at hc'
 simp only[Option.some.injEq,Obj.cells.injEq]at hc'
 obtain⟨_,e,_⟩:=hc'
 subst e
 exact ht' ht)
section
variable {w w' : World} {bv : Nat} {bk : Nat -> Nat} {lo : Nat} {d : dS} {c : Value} {q : Bool} {S : Nat -> Prop}
theorem bJ.aC(h:bJ w bv bk lo d c)(hq:d.qP=true->q=true)(k:au S w w')(o:l9 w lo q S):bJ w' bv bk lo d c:=by
 obtain⟨fn,cp,rfl,h⟩:=h
 refine⟨fn,cp,rfl,?_⟩
 cases d with
 | fA b od =>
   obtain⟨e,H,h0,e2,h1,h2⟩:=h
   exact⟨e,H,h0,e2,o.aB k h1 h0 (.inl rfl),o.aB k h2 (by omega) (.inr (.inl rfl))⟩
 | left b =>
   obtain⟨e,H,h0,e2,h1,h2⟩:=h
   exact⟨e,H,h0,e2,o.aB k h1 h0 (.inr (.inr (.inl rfl))),o.aB k h2 (by omega) (.inl rfl)⟩
 | eQ b p =>
   obtain⟨e,H,h0,e2,⟨h1,h2⟩,h3⟩:=h
   exact⟨e,H,h0,e2,⟨o.aB k h1 h0 (.inr (.inr (.inl rfl))),o.aB k h2 (by omega) (.inl rfl)⟩,o.aB k h3 (by omega) (.inr (.inr (.inr (.inl rfl))))⟩
 | entered id =>
   obtain⟨e,H,cs,h0,e2,h1,h2,h3⟩:=h
   exact⟨e,H,cs,h0,e2,o.aB k h1 h0 (.inr (.inr (.inr (.inr (.inl rfl))))),o.aB k h2 (by omega) (.inr (.inr (.inr (.inr (.inr (.inl rfl)))))),h3⟩
 | cO s =>
   obtain⟨e,H,K,h0,hK,e2,h1,h2⟩:=h
   exact⟨e,H,K,h0,hK,e2,o.aB k h1 h0 (.inr (.inr (.inr (.inr (.inl rfl))))),o.aB k h2 hK (.inr (.inr (.inr (.inr (.inr (.inr (.inl rfl)))))))⟩
 | iH t =>
   obtain⟨e,H,h0,e2,h1,h2⟩:=h
   exact⟨e,H,h0,e2,o.aB k h1 h0 (.inr (.inr (.inr (.inr (.inl rfl))))),o.aB k h2 (by omega) (.inr (.inr (.inr (.inr (.inr (.inr (.inr (.inl rfl))))))))⟩
 | jw tb =>
   obtain⟨e,H,K,h0,hK,e2,h1,h2⟩:=h
   exact⟨e,H,K,h0,hK,e2,o.aB k h1 h0 (.inr (.inr (.inr (.inr (.inl rfl))))),o.aB k h2 hK (.inr (.inr (.inr (.inr (.inr (.inr (.inr (.inr ⟨hq rfl,rfl⟩))))))))⟩
 | iE tb p =>
   obtain⟨e,H,K,J,h0,hK,hJ,e2,h1,h2,h3⟩:=h
   exact⟨e,H,K,J,h0,hK,hJ,e2,o.aB k h1 h0 (.inr (.inr (.inr (.inr (.inl rfl))))),o.aB k h2 hK (.inr (.inr (.inr (.inr (.inr (.inr (.inr (.inr ⟨hq rfl,rfl⟩)))))))),o.aB k h3 hJ (.inr (.inr (.inr (.inl rfl))))⟩
 | closed =>
   obtain⟨e,H,h0,e2,h1⟩:=h
   exact⟨e,H,h0,e2,o.aB k h1 h0 (.inr (.inr (.inr (.inr (.inl rfl)))))⟩
end
structure gI(w:World)(bv:Nat)(bk:Nat->Nat)(lo:Nat)(q:Bool)(old:List (List Value))(nt:List dS)(dQ:List Nat)(m:Lm)(cl:List Value):Prop where
 tb:m.tb=dQ
 ac:m.ac.map Prod.snd=old++[cl]
 len:cl.length=nt.length
 qP:∀d∈nt,d.qP=true->q=true
 mi:∀(i:Nat) (d:dS) (c:Value),nt[i]?=some d->cl[i]?=some c->bJ w bv bk lo d c
 tvl:∀d∈nt,d.qP=true->∀g,m.tv.ownBlock=some g->g<lo
theorem gI.aC{w w':World}{bv:Nat}{bk:Nat->Nat}{lo:Nat}{q:Bool}{old:List (List Value)}{nt:List dS}{dQ:List Nat}{m:Lm}{cl:List Value}(h:gI w bv bk lo q old nt dQ m cl){S:Nat->Prop}(k:au S w w')(o:l9 w lo q S):gI w' bv bk lo q old nt dQ m cl :=
 ⟨h.tb,h.ac,h.len,h.qP,fun i d c hd hc=>(h.mi i d c hd hc).aC (h.qP d (List.mem_of_getElem? hd)) k o,h.tvl⟩
theorem gI.aH{w w':World}{bv:Nat}{bk:Nat->Nat}{lo:Nat}{q:Bool}{old:List (List Value)}{nt:List dS}{dQ:List Nat}{m:Lm}{cl:List Value}(h:gI w bv bk lo q old nt dQ m cl)(k:au aP w w'):gI w' bv bk lo q old nt dQ m cl:=h.aC k (l9.non w lo q)
theorem gI.QR{w:World}{bv:Nat}{bk:Nat->Nat}{lo:Nat}{q:Bool}{old:List (List Value)}{nt:List dS}{dQ:List Nat}{m m':Lm}{cl:List Value}(h:gI w bv bk lo q old nt dQ m cl)(e:m'.ac=m.ac)(ht:∀d∈nt,d.qP=true->m'.tv=m.tv):gI w bv bk lo q old nt m'.tb m' cl:=⟨rfl,by rw[e];exact h.ac,h.len,h.qP,h.mi,fun d hd hT g hg=>h.tvl d hd hT g (by rw[<-ht d hd hT];exact hg)⟩
theorem gI.more{w:World}{bv:Nat}{bk:Nat->Nat}{lo:Nat}{q:Bool}{old:List (List Value)}{nt ds:List dS}{dQ:List Nat}{m m':Lm}{cl news:List Value}(h:gI w bv bk lo q old nt dQ m cl)(htb:m'.tb=m.tb)(hac:m'.ac.map Prod.snd=old++[cl++news])(hl:news.length=ds.length)(hT:∀d∈ds,d.qP=true->q=true)(hb:∀(i:Nat) (d:dS) (c:Value),ds[i]?=some d->news[i]?=some c->bJ w bv bk lo d c)(xY:m'.tv=m.tv)(hV:∀d∈ds,d.qP=true->∀g,m.tv.ownBlock=some g->g<lo):gI w bv bk lo q old (nt++ds) dQ m' (cl++news):=by
 refine⟨by rw[htb];exact h.tb,hac,by rw[List.length_append,List.length_append,h.len,hl],fun d hd=>(List.mem_append.1 hd).elim (h.qP d) (hT d),fun i d c hd hc=>?_,fun d hd hd2 g hg=>(List.mem_append.1 hd).elim (fun h1=>h.tvl d h1 hd2 g (by rw[<-xY];exact hg)) (fun h1=>hV d h1 hd2 g (by rw[<-xY];exact hg))⟩
 by_cases hi:i<nt.length
 ·rw[List.getElem?_append_left hi]at hd
  rw[List.getElem?_append_left (by rw[h.len];exact hi)]at hc
  exact h.mi i d c hd hc
 ·rw[List.getElem?_append_right (by omega)]at hd
  rw[List.getElem?_append_right (by rw[h.len];omega),h.len]at hc
  exact hb _ d c hd hc
theorem KH(bv bm bo:Nat)(G:Lg)(m:Lm)(line:ByteArray)(w:World)(hL:bu w bv bm bo G m)(hna:G.ud+G.na<3000000)(h0:0<line.size)(hl:line.size<=290) :
 Calls Tryz.prog 51 #[.pointer (some ⟨bv,0,none⟩),.string line] w fun e w'=>e=.returned (.tuple #[]) /\
  ∃m',bu w' bv bm bo G.begun m'/\(∀b,m'.F b->m.F b\/w.heap.size<=b)/\au (fun b=>b=bv\/m.av.ownBlock=some b\/m.jv.ownBlock=some b) w w'/\(m'.tb=m.tb/\m'.tv=m.tv)/\m'.ac.map Prod.snd=m.ac.map Prod.snd++[[]]:=by
 obtain⟨n,hn⟩:∃n,G.na=n:=⟨_,rfl⟩
 have hav:∃pa lX,m.av=.slice pa n lX:=by
  have hrow:=hL.aO.act.row
  rw[hL.aO.act.len,hn]at hrow
  exact Ad hrow
 obtain⟨pa,lX,hav⟩:=hav
 obtain⟨i0,hi0,hz0,hz1,hz2⟩:=P9
 have hmx:n+1<=maxLen:=by unfold maxLen;omega
 have tC:(n+1) * 24<=140737488355328:=by omega
 have HWr:=ai (Dy bv bm bo G m (G.ud+G.na) line w hL hna h0 hl)
 have HL:=ai hL
 have VW:=ai hav
 have HN:=ai hn
 clear hL hav hn
 go_enter Tryz.func51,Tryz.ntmps51
 go_wp2_with (first
  | (go_at_call 44;refine (ae HWr).mono ?_;rintro e wq ⟨rfl,jv,jn,hLq,hFq,hkq⟩;have HLq:=ai hLq;have HFq:=ai hFq;have Sm:=ai hkq;have v5:wq.cell? ⟨bv,5,none⟩=some (.slice pa n lX):=(hLq.dA.cell 5).trans (by rw[<-ae VW];rfl);have f5:=hLq.dA.frozen 5;have lv:=hLq.dA.lt;have hrow:wq.ownsRow 0 109 1 (.slice pa n lX) n (m.ac.map Prod.fst):=(by have hr:=hLq.aO.act.row;simp only at hr;rw[hLq.aO.act.len,ae HN,ae VW]at hr;exact hr);have HR:=ai hrow;clear hLq hFq hkq hrow)
  | (at_builtin;refine wpList_append_lies _ rfl _ _ 97 rfl 0 109 i0 (.slice none 0 0) 1 24 Tryz.underlying97 hi0 hz0 hz1 hz2 rfl (by decide) (.slice pa n lX) n _ rfl (aG (ae HR) ((au.refl aP wq).alloc _) (fun _ _ x=>x)) ⟨wq.heap.size,0,none⟩ 1 1 [.slice none 0 0] rfl rfl (World.news_of_block (az.new wq #[.slice none 0 0] 109)) (by simp[Value.oneCell']) (by omega) hmx tC (by omega) (wq.heap.size+1) (by simp) ?_;intro g cap w2 hown2 hgrow hat hlt;have KD:=ai hown2;have HG2:=ai hgrow;have HA2:=ai hat;have b2:az w2 bv (qM bm bo { m with jv:=jv,jn:=jn } G.day) 100:=(hgrow.block bv ((ae HLq).dA.alloc _).lt (fun e=>(ae HLq).Jb (.inr (.inr (.inr (.inl (by show m.av.ownBlock=_;rw[ae VW];exact e.symm))))))).trans ((ae HLq).dA.alloc _);have v52:=b2.cell 5;have f52:=b2.frozen 5;simp only[qM]at v52;simp at v52;clear hown2 hgrow hat b2))
 go_end0
 have k1:au aP wq (wq.alloc (.cells #[.slice none 0 0] 109)):=(au.refl aP wq).alloc _
 have hg:=((ae HLq).aH k1).TL (Nat.le_refl _) (ae HN) (ae KD) (by show World.grownBy _ w2 m.av.ownBlock;rw[ae VW];exact ae HG2) (by show m.av.ownBlock=_\/_;rw[ae VW];exact ae HA2) (by simp)
 have kq:=ae Sm
 refine⟨rfl,_,hg.1,fun b hb=>?_,?_,⟨rfl,rfl⟩,by simp⟩
 ·rcases hg.2.1 b hb with h|h
  ·rcases h with h|(h|h)|h|h
   ·exact .inl (.inl h)
   ·exact .inl (.inr (.inl (.inl h)))
   ·exact (ae HFq b h).imp_left (fun h=>.inr (.inl (.inr h)))
   ·exact .inl (.inr (.inr (.inl h)))
   ·exact .inl (.inr (.inr (.inr h)))
  ·have:=kq.size
   exact .inr (by omega)
 ·exact (kq.mono (fun b h=>h.imp_right .inr)).trans ((k1.bI.trans hg.2.2).mono (fun b h=>h.imp_right .inl))
theorem Uy(bv bm bo:Nat)(G:Lg)(m:Lm)(ds:List dS)(news:List Value)(sb c kc:Nat)(w:World)(hL:bu w bv bm bo G m)(hna:0<G.na)(gZ:G.na<=3000000)(hnf:G.nt.length+c<1000000000)(hc:0<c)(hds:ds.length=c)(hl:news.length=c)(hnews:∀j u,news[j]?=some u->w.cell? ((⟨sb,0,none⟩:Addr).add j)=some u)(hone:∀u∈news,u.oneCell'=true) :
 Calls Tryz.prog 53 #[.pointer (some ⟨bv,0,none⟩),.slice (some ⟨sb,0,none⟩) c kc] w fun e w'=>e=.returned (.tuple #[]) /\
  ∃m',bu w' bv bm bo (G.aV ds) m'/\(∀b,m'.F b->m.F b\/w.heap.size<=b)/\au (fun b=>gy m.av m.ac b) w w'/\(∀b,gy m'.av m'.ac b->gy m.av m.ac b\/w.heap.size<=b)/\(m'.tb=m.tb/\m'.tv=m.tv)/\∃old cl,m.ac.map Prod.snd=old++[cl]/\m'.ac.map Prod.snd=old++[cl++news]:=by
 obtain⟨n,hn⟩:∃n,G.na=n:=⟨_,rfl⟩
 have hA:=hL.aO.act
 obtain⟨init,⟨hd,fs⟩,hac⟩:=yg m.ac (by rw[hA.len];exact hna)
 have hlen:=hA.len
 rw[hac,List.length_append,hn]at hlen
 simp at hlen
 obtain⟨k,hk⟩:∃k,k+1=n:=⟨init.length,hlen⟩
 have hrow:=hA.row
 rw[hA.len,hn]at hrow
 obtain⟨ga,OQ,hav,_,hga⟩:=hrow.form (by omega)
 rcases hrow.2 with⟨e,_⟩|⟨g',cap',cur,e,h0,hg,h1,h2,h3,h4⟩
 ·rw[hav]at e;simp at e
 have ee:=hav.symm.trans e
 simp only[Value.slice.injEq,Option.some.injEq,Addr.mk.injEq]at ee
 obtain⟨⟨e1,_⟩,_,e2⟩:=ee
 subst e1 e2
 have hfs:=hA.last (hd,fs) (by rw[hac];simp)
 simp only at hfs
 have hown:=hA.own (hd,fs) (by rw[hac];simp)
 simp only at hown
 obtain⟨ha,hcap,hhd⟩:=Ad hown
 rw[hfs]at hhd
 obtain⟨q,hq⟩:∃q,fs.length=q:=⟨_,rfl⟩
 rw[hq]at hown hfs
 rw[<-hfs]at hhd
 rw[hhd]at hown
 have hB:az w ga cur 109:=hg
 have hcell:cur[k]?=some hd:=by
  have:cur.toList.take (n * 1)=init.map Prod.fst++[hd]:=by rw[h4,hac];simp
  have h5:(cur.toList.take (n * 1))[k]?=some hd:=by
   rw[this]
   have e:k=(init.map Prod.fst).length:=by rw[List.length_map];omega
   rw[e];simp
  rw[List.getElem?_take_of_lt (by omega)]at h5
  simpa using h5
 have cK:w.cell? ⟨ga,k,none⟩=some (.slice ha q hcap):=by rw[hB.cell k,hcell,hhd]
 have v5:w.cell? ⟨bv,5,none⟩=some (.slice (some ⟨ga,0,none⟩) n OQ):=(hL.dA.cell 5).trans (by rw[<-hav];rfl)
 have hkn:k<n:=by omega
 have hki:(n:Int)-1=(k:Int):=by omega
 have hkw:wrap64 (k:Int)=(k:Int):=by unfold wrap64;omega
 have hnd:(Value.slice ha q hcap).ownBlock≠some ga:=fun e=>by
  obtain⟨cs,hc⟩:=bF hown e
  exact az.ne hc hB (by decide) rfl
 have hnv:(Value.slice ha q hcap).ownBlock≠some bv:=fun e=>by
  obtain⟨cs,hc⟩:=bF hown e
  exact az.ne hc hL.dA (by decide) rfl
 have HNv:=ai hnv
 clear hnv
 have HOn:=ai hown
 have HNw:=ai hnews
 have HL:=ai hL
 have HB:=ai hB
 have YA:=ai (show cur[k]?=some (.slice ha q hcap) by rw[hcell,hhd])
 have U6:=ai hac
 have VW:=ai hav
 have HN:=ai hn
 have HK:=ai hk
 have HHd:=ai hhd
 have HQ:=ai hq
 have Ff:=ai hone
 have HNd:=ai hnd
 have HLn:=ai hl
 have hv:=ai hL.dA
 have lv:=hL.dA.lt
 have hnb:q+c<=2000000000:=by omega
 clear hown hnews hL hB hcell hac hav hn hk hhd hq hone hnd hg hA hlen hrow h0 h1 h2 h3 h4 e hfs hl hnf
 go_enter Tryz.func53,Tryz.ntmps53
 go_wp2
 go_region_law (first|(refine yC rfl (.tmp 22) (.tmp 23) rfl ha q hcap fs rfl (ae HOn) ⟨sb,0,none⟩ c kc news rfl (by rw[ae HLn];omega) (ae HNw) (ae Ff) hc hnb w.heap.size rfl ?_;intro g cap w2 hown2 hgrow hat hlt;have KD:=ai hown2;have HG2:=ai hgrow;have HA2:=ai hat;have b2:az w2 ga cur 109:=(hgrow.block ga hga (fun e=>ae HNd e.symm)).trans (ae HB);have c2:w2.cell? ⟨ga,k,none⟩=some (.slice ha q hcap):=(b2.cell k).trans (ae YA);have f2:=b2.frozen k;have v52:w2.cell? ⟨bv,5,none⟩=some (.slice (some ⟨ga,0,none⟩) n OQ):=(World.cell?_of_block (a:=⟨bv,5,none⟩) (hgrow.block bv lv (fun e=>ae HNv e.symm))).trans v5;clear hown2 hgrow hat b2))
 all_goals
  go_end0
  have hh:=ae HHd
  have hg:=((ae HL).aH (au.refl aP w).drew).PE (ds:=ds) (c:=c) (fs:=fs) (news:=news) (ae U6) (ae VW) (ae HN) (ae HK) (by rw[ae HQ];exact ae KD) (by rw[hh];exact ae HG2) (by rw[hh];exact ae HA2) rfl hds
  rw[ae HQ]at hg
  exact⟨rfl,_,hg.1,hg.2.1,(au.refl _ w).drew.trans hg.2.2.1,hg.2.2.2,⟨rfl,rfl⟩,init.map Prod.snd,fs,by rw[ae U6];simp,by simp⟩
theorem Nz{t:TypeId}{q:Bool}(h:t=109\/t=1):¬nK q t:=by
 rintro (e|e|e|e|e|e|e|e|⟨_,e⟩) <;> (rw[e]at h;revert h;decide)
theorem E8.off{w:World}{av:Value}{ac:List (Value × List Value)}{na nf:Nat}(h:E8 w av ac na nf)(lo:Nat)(q:Bool):l9 w lo q (fun b=>gy av ac b):=l9.fZ (fun b hb=>by
 obtain⟨c,t,hc,ht⟩:=h.fZ hb
 exact⟨c,t,hc,Nz ht⟩)
theorem QE(bv bm bo:Nat)(G:Lg)(m:Lm)(ds:List dS)(news:List Value)(sb c kc:Nat)(w:World)(bk:Nat->Nat)(lo:Nat)(q:Bool)(old:List (List Value))(dQ:List Nat)(cl:List Value)(hL:bu w bv bm bo G m)(hC:gI w bv bk lo q old G.nt dQ m cl)(hT:∀d∈ds,d.qP=true->q=true)(hB:∀(i:Nat) (d:dS) (c:Value),ds[i]?=some d->news[i]?=some c->bJ w bv bk lo d c)(hna:0<G.na)(gZ:G.na<=3000000)(hnf:G.nt.length+c<1000000000)(hc:0<c)(hds:ds.length=c)(hl:news.length=c)(hnews:∀j u,news[j]?=some u->w.cell? ((⟨sb,0,none⟩:Addr).add j)=some u)(hone:∀u∈news,u.oneCell'=true)(hV:∀d∈ds,d.qP=true->∀g,m.tv.ownBlock=some g->g<lo) :
 Calls Tryz.prog 53 #[.pointer (some ⟨bv,0,none⟩),.slice (some ⟨sb,0,none⟩) c kc] w fun e w'=>e=.returned (.tuple #[]) /\
  ∃m',bu w' bv bm bo (G.aV ds) m'/\(∀b,m'.F b->m.F b\/w.heap.size<=b)/\au (fun b=>gy m.av m.ac b) w w'/\(∀b,gy m'.av m'.ac b->gy m.av m.ac b\/w.heap.size<=b)/\gI w' bv bk lo q old (G.aV ds).nt dQ m' (cl++news):=by
 have hO:=hL.aO.act.off lo q
 refine (Uy bv bm bo G m ds news sb c kc w hL hna gZ hnf hc hds hl hnews hone).mono ?_
 rintro e w' ⟨rfl,m',h1,h2,h3,h4,htb,old',cl',e1,e2⟩
 have e3:old'++[cl']=old++[cl]:=by rw[<-e1,hC.ac]
 obtain⟨rfl,e4⟩:=List.append_inj' e3 rfl
 obtain rfl:cl'=cl:=by simpa using e4
 exact⟨rfl,m',h1,h2,h3,h4,(hC.aC h3 hO).more htb.1 e2 (by rw[hl,hds]) hT (fun i d c hd hc=>(hB i d c hd hc).aC (hT d (List.mem_of_getElem? hd)) h3 hO) htb.2 hV⟩
theorem VM(bv bm bo:Nat)(G:Lg)(lm:Lm)(ds:List dS)(fv:Array Value)(w:World)(bk:Nat->Nat)(lo:Nat)(q:Bool)(old:List (List Value))(dQ:List Nat)(cl:List Value)(hL:bu w bv bm bo G lm)(hC:gI w bv bk lo q old G.nt dQ lm cl)(hT:∀d∈ds,d.qP=true->q=true)(hB:∀(i:Nat) (d:dS) (c:Value),ds[i]?=some d->fv.toList[i]?=some c->bJ w bv bk lo d c)(hna:0<G.na)(gZ:G.na<=3000000)(hnf:G.nt.length+fv.size<1000000000)(hc:0<fv.size)(hds:ds.length=fv.size)(hone:∀u∈fv.toList,u.oneCell'=true)(hV:∀d∈ds,d.qP=true->∀g,lm.tv.ownBlock=some g->g<lo) :
 Calls Tryz.prog 53 #[.pointer (some ⟨bv,0,none⟩),.slice (some ⟨w.heap.size,0,none⟩) fv.size fv.size] (w.alloc (.cells fv 1)) fun e w'=>e=.returned (.tuple #[]) /\
  ∃bH,bu w' bv bm bo (G.aV ds) bH/\(∀b,bH.F b->lm.F b\/w.heap.size<=b)/\au (fun b=>gy lm.av lm.ac b) w w'/\(∀b,gy bH.av bH.ac b->gy lm.av lm.ac b\/w.heap.size<=b)/\gI w' bv bk lo q old (G.aV ds).nt dQ bH (cl++fv.toList):=by
 have k1:au aP w (w.alloc (.cells fv 1)):=(au.refl aP w).alloc _
 refine (QE bv bm bo G lm ds fv.toList w.heap.size fv.size fv.size (w.alloc (.cells fv 1)) bk lo q old dQ cl (hL.aH k1) (hC.aH k1) hT (fun i d c hd hc=>(hB i d c hd hc).aC (hT d (List.mem_of_getElem? hd)) k1 (l9.non w lo q)) hna gZ hnf hc hds (by simp) (World.news_of_block (az.new w fv 1)) hone hV).mono ?_
 rintro e w' ⟨rfl,bH,h1,h2,h3,h4,h5⟩
 exact⟨rfl,bH,h1,fun b hb=>(h2 b hb).imp_right (fun h=>by simp at h;omega),k1.bI.trans h3,fun b hb=>(h4 b hb).imp_right (fun h=>by simp at h;omega),h5⟩
theorem lV(bv bm bo:Nat)(G:Lg)(lm:Lm)(d:dS)(fn:Fn)(cp:Array Value)(w:World)(bk:Nat->Nat)(lo:Nat)(q:Bool)(old:List (List Value))(dQ:List Nat)(cl:List Value)(hL:bu w bv bm bo G lm)(hC:gI w bv bk lo q old G.nt dQ lm cl)(hT:d.qP=true->q=true)(hB:bJ w bv bk lo d (.func fn #[] cp))(hna:0<G.na)(gZ:G.na<=3000000)(hnf:G.nt.length+1<1000000000)(hV:d.qP=true->∀g,lm.tv.ownBlock=some g->g<lo:=by exact fun h=>absurd (show false=true from h) Bool.false_ne_true) :
 Calls Tryz.prog 53 #[.pointer (some ⟨bv,0,none⟩),.slice (some ⟨w.heap.size,0,none⟩) 1 1] (w.alloc (.cells #[.func fn #[] cp] 1)) fun e w'=>e=.returned (.tuple #[]) /\
  ∃bH,bu w' bv bm bo (G.aV [d]) bH/\(∀b,bH.F b->lm.F b\/w.heap.size<=b)/\au (fun b=>gy lm.av lm.ac b) w w'/\(∀b,gy bH.av bH.ac b->gy lm.av lm.ac b\/w.heap.size<=b)/\gI w' bv bk lo q old (G.aV [d]).nt dQ bH (cl++[.func fn #[] cp]) :=
 VM bv bm bo G lm [d] #[.func fn #[] cp] w bk lo q old dQ cl hL hC (fun x hx=>by rw[List.mem_singleton.1 hx];exact hT) (fun i d' c hd hc=>by
  cases i with
  | zero=>simp at hd hc;subst hd hc;exact hB
  | succ i=>simp at hd) hna gZ hnf (by simp) rfl (by simp[Value.oneCell']) (fun x hx=>by rw[List.mem_singleton.1 hx];exact hV)
theorem uN(bv bm bo:Nat)(G:Lg)(lm:Lm)(d d2:dS)(fn sH:Fn)(cp cp2:Array Value)(w:World)(bk:Nat->Nat)(lo:Nat)(q:Bool)(old:List (List Value))(dQ:List Nat)(cl:List Value)(hL:bu w bv bm bo G lm)(hC:gI w bv bk lo q old G.nt dQ lm cl)(hT:d.qP=true->q=true)(hT2:d2.qP=true->q=true)(hB:bJ w bv bk lo d (.func fn #[] cp))(hB2:bJ w bv bk lo d2 (.func sH #[] cp2))(hna:0<G.na)(gZ:G.na<=3000000)(hnf:G.nt.length+2<1000000000)(hV:d.qP=true->∀g,lm.tv.ownBlock=some g->g<lo:=by exact fun h=>absurd (show false=true from h) Bool.false_ne_true)(hV2:d2.qP=true->∀g,lm.tv.ownBlock=some g->g<lo:=by exact fun h=>absurd (show false=true from h) Bool.false_ne_true) :
 Calls Tryz.prog 53 #[.pointer (some ⟨bv,0,none⟩),.slice (some ⟨w.heap.size,0,none⟩) 2 2] (w.alloc (.cells #[.func fn #[] cp,.func sH #[] cp2] 1)) fun e w'=>e=.returned (.tuple #[]) /\
  ∃bH,bu w' bv bm bo (G.aV [d,d2]) bH/\(∀b,bH.F b->lm.F b\/w.heap.size<=b)/\au (fun b=>gy lm.av lm.ac b) w w'/\(∀b,gy bH.av bH.ac b->gy lm.av lm.ac b\/w.heap.size<=b)/\gI w' bv bk lo q old (G.aV [d,d2]).nt dQ bH (cl++[.func fn #[] cp,.func sH #[] cp2]) :=
 VM bv bm bo G lm [d,d2] #[.func fn #[] cp,.func sH #[] cp2] w bk lo q old dQ cl hL hC (fun x hx=>by simp at hx;rcases hx with rfl|rfl;exact hT;exact hT2) (fun i d' c hd hc=>by
  match i with
  | 0=>simp at hd hc;subst hd hc;exact hB
  | 1=>simp at hd hc;subst hd hc;exact hB2
  | i+2=>simp at hd) hna gZ hnf (by simp) rfl (by simp[Value.oneCell']) (fun x hx=>by simp at hx;rcases hx with rfl|rfl;exact hV;exact hV2)
open Go.RowKit Go.Maps Go.Lib
theorem EM{P:Program}(w:World)(s:ByteArray)(pos c n:Nat)(ty:TypeId)(h:pos<s.size)(hd:Utf8.decode s pos=(c,n)) :
 (Instr.next (.pointer (some ⟨w.heap.size,0,none⟩)) true ty).run P (w.iter s pos) =
  .ok (.tuple #[.bool true,.int .i64 pos,.int .i32 c]) (w.iter s (pos+n)):=by
 simp only[Instr.next,getObj,setObj,Sem.run_bind,Sem.run,World.iter_heap,Result.andThen,h,if_true,hd,World.iter_set]
 simp[goInt,Sem.run,World.iter_heap,World.iter_set]
def sa:ByteArray:=⟨#[97]⟩
def sA:ByteArray:=⟨#[65]⟩
def sG:ByteArray:=⟨#[206,145,206,169]⟩
def kK(s:ByteArray):Bk:=⟨s,fun _=>none,fun _=>0,fun _=>0,fun _ _=>0,0⟩
theorem FD(s:ByteArray)(w:World):Calls Tryz.prog 52 #[.string s] w fun e w'=>e=.returned (.pointer (some ⟨w.heap.size,0,none⟩))/\az w' w.heap.size (kK s).cells 158/\au aP w w':=by
 go_enter Tryz.func52,Tryz.ntmps52
 go_wp2
 go_ret
 exact⟨rfl,az.new w _ _,(au.refl aP w).alloc _⟩
def l7:aQ:=⟨0,fun _=>0,fun _=>kK ⟨#[]⟩,fun _=>⟨0,0,⟨#[]⟩,0,0,0,0,0,0,0,0,0,0⟩,fun _=>none,0,⟨[],[],1,0,[],0⟩,⟨.slice none 0 0,.slice none 0 0,[],.slice none 0 0,[],.slice none 0 0,[]⟩⟩
theorem Ux(w:World):Calls Tryz.prog 34 #[] w fun e w'=>∃bv bm bo,e=.returned (.pointer (some ⟨bv,0,none⟩))/\dN w' bv bm bo l7/\au aP w w'/\w.heap.size<=bv/\w.heap.size<=bm/\w.heap.size<=bo:=by
 have hmm:=@run_makeMap Tryz.prog
 go_enter Tryz.func34,Tryz.ntmps34
 go_wp2
 go_ret
 refine⟨w.heap.size+1+1,w.heap.size,w.heap.size+1,?_,?_,?_,by omega,by omega,by omega⟩
 ·rfl
 ·have m1:jF (((w.alloc (.map #[] 0)).alloc (.map #[] 0)).alloc (.cells #[.map (some w.heap.size),.map (some (w.heap.size+1)),.slice none 0 0,.slice none 0 0,.int .i64 1,.slice none 0 0,.slice none 0 0] 100)) 9 w.heap.size (fun _=>none) 0:=((jF.made w 9).aC ((au.refl aP _).alloc _) (fun x=>x)).aC ((au.refl aP _).alloc _) (fun x=>x)
  have m2:jF (((w.alloc (.map #[] 0)).alloc (.map #[] 0)).alloc (.cells #[.map (some w.heap.size),.map (some (w.heap.size+1)),.slice none 0 0,.slice none 0 0,.int .i64 1,.slice none 0 0,.slice none 0 0] 100)) 3 (w.heap.size+1) (fun _=>none) 0:=by
   have h:=(jF.made (w.alloc (.map #[] 0)) 3).aC ((au.refl aP _).alloc (.cells #[.map (some w.heap.size),.map (some (w.heap.size+1)),.slice none 0 0,.slice none 0 0,.int .i64 1,.slice none 0 0,.slice none 0 0] 100)) (fun x=>x)
   have e:(w.alloc (.map #[] 0)).heap.size=w.heap.size+1:=by simp
   rw[e]at h
   exact h
  have m3:az (((w.alloc (.map #[] 0)).alloc (.map #[] 0)).alloc (.cells #[.map (some w.heap.size),.map (some (w.heap.size+1)),.slice none 0 0,.slice none 0 0,.int .i64 1,.slice none 0 0,.slice none 0 0] 100)) (w.heap.size+1+1) (qM w.heap.size (w.heap.size+1) l7.lm l7.lg.day) 100:=by
   have h:=az.xy (w.alloc (.map #[] 0)) (.map #[] 0) (qM w.heap.size (w.heap.size+1) l7.lm l7.lg.day) 100
   have e:(w.alloc (.map #[] 0)).heap.size=w.heap.size+1:=by simp
   rw[e]at h
   exact h
  exact⟨⟨m3,⟨World.ownsRow_nil _ _ _ _,World.ownsRow_nil _ _ _ _,rfl,fun i b g h=>by simp[l7]at h,List.nodup_nil,⟨World.ownsRow_nil _ _ _ _,fun a ha=>by simp[l7]at ha,List.nodup_nil,rfl,fun a ha=>by simp[l7]at ha⟩,World.ownsRow_nil _ _ _ _,Nat.zero_le _⟩⟩,⟨_,m1,fun i hi=>absurd hi (Nat.not_lt_zero i),fun s b h=>by simp at h⟩,⟨_,m2,fun _=>rfl⟩,by omega,fun i hi=>absurd hi (Nat.not_lt_zero i),fun id b h=>by simp[l7]at h,fun i hi=>absurd hi (Nat.not_lt_zero i),fun i j hi=>absurd hi (Nat.not_lt_zero i),fun i j hi=>absurd hi (Nat.not_lt_zero i),Nat.zero_le _⟩
 ·exact (((au.refl aP w).alloc _).alloc _).alloc _
def qU(s:ByteArray)(b:Bool):Prop:=∀w,Calls Tryz.prog 50 #[.string s] w fun e w'=>e=.returned (.bool b)/\au aP w w'
theorem Nv(bv:Nat)(s:ByteArray)(w:World)(hn:qU s false):Calls Tryz.prog 27 #[.pointer (some ⟨bv,0,none⟩),.string s] w fun e w'=>e=.returned (.int .i64 3)/\au aP w w':=by
 go_enter Tryz.func27,Tryz.ntmps27
 go_wp2_with fail
 refine (hn _).mono ?_
 rintro e w' ⟨rfl,k⟩
 go_wp2
 go_ret
 exact⟨rfl,((au.refl aP w).alloc _).trans k⟩
theorem JK(bv bm bo i:Nat)(V:aQ)(s:ByteArray)(w:World)(R:dN w bv bm bo V)(hn:qU s true)(hlen:s.size<=maxLen)(hi:i<V.nb)(hs:(V.B i).sym=s):Calls Tryz.prog 27 #[.pointer (some ⟨bv,0,none⟩),.string s] w fun e w'=>e=.returned (.int .i64 2)/\au aP w w':=by
 obtain⟨fB,mB,oK,sF⟩:=R.ik
 have hl:=oK i hi
 rw[hs]at hl
 have HL:=ai hl
 have hK:∀w',au aP w w'->(Instr.lookup 94 (.map (some bm)) (.string s) false).run Tryz.prog w'=.ok (.pointer (some ⟨V.bk i,0,none⟩)) w'/\w'.cell? ⟨bv,0,none⟩=some (.map (some bm)):=fun w' k=>by
  refine⟨?_,(k.aB R.dA (fun x=>x)).cell 0⟩
  rw[(mB.aC k (fun x=>x)).look yw Tryz.underlying94 (oW _) (WideMaps.keyOf_string_mk Tryz.underlying9 hlen)]
  show _=Result.ok (iR (some (V.bk i))) _
  rw[<-ae HL];rfl
 have HK:=ai hK
 clear hl hK hs mB oK sF
 go_enter Tryz.func27,Tryz.ntmps27
 go_wp2_with fail
 refine (hn _).mono ?_
 rintro e w1 ⟨rfl,k⟩
 have xb:w1.cell? ⟨w.heap.size,0,none⟩=some (.pointer (some ⟨bv,0,none⟩)):=(k.aB (az.new w #[.pointer (some ⟨bv,0,none⟩)] 35) (fun x=>x)).cell 0
 have k0:=((au.refl aP w).alloc (.cells #[.pointer (some ⟨bv,0,none⟩)] 35)).trans k
 obtain⟨L1,v0⟩:=ae HK w1 k0
 go_wp2
 go_ret
 exact⟨rfl,k0⟩
def aQ.list(V:aQ)(s:ByteArray)(b:Nat):aQ:={ V with nb:=V.nb+1,bk:=aN V.bk V.nb b,B:=aN V.B V.nb (kK s) }
theorem vP(s:ByteArray)(x b:Nat):¬dC (kK s) x b:=by
 rintro (h|⟨k,hk,_⟩)
 ·simp[kK,gG]at h
 ·exact absurd hk (Nat.not_lt_zero k)
theorem dN.list{w w':World}{bv bm bo b:Nat}{V:aQ}{s:ByteArray}(R:dN w bv bm bo V)(hb:w.heap.size<=b)(hblk:az w' b (kK s).cells 158)(k:au (fun x=>x=bm) w w')(hfree:∀i,i<V.nb->(V.B i).sym≠s)
 (mB:∃fB,jF w' 9 bm fB (V.nb+1)/\fB (sl s)=some b/\∃fB0,jF w 9 bm fB0 V.nb/\(∀i,i<V.nb->fB0 (sl (V.B i).sym)=some (V.bk i))/\(∀s b,fB0 (sl s)=some b->∃i,i<V.nb/\b=V.bk i/\(V.B i).sym=s)/\∀s',s'≠s->fB (sl s')=fB0 (sl s')) :
 dN w' bv bm bo (V.list s b):=by
 obtain⟨fB,mB',f1,fB0,XM,g1,g2,f2⟩:=mB
 obtain⟨fO,mO,tZ⟩:=R.fD
 have ne:∀{b':Nat} {c:Array Value} {t:TypeId},az w b' c t->az w' b' c t:=fun h=>k.aB h (Ne.symm (XM.ne h))
 have bk:∀i,i<V.nb->bU w' (V.bk i) (V.B i) V.om:=fun i hi=>(R.aW i hi).aC k (by
  rintro x (rfl|⟨y,hy,h⟩) e
  ·exact XM.ne (R.aW i hi).aB e.symm
  ·rcases h with h|⟨l,hl,rfl⟩
   ·rcases ((R.aW i hi).side y hy) with⟨h0,_⟩|⟨ab,hab,hsd⟩
    ·rw[h0]at h;simp[gG]at h
    ·obtain⟨cs,hcs,_⟩:=hsd.oH
     rw[hab]at h
     simp[gG]at h
     rw[h]at hcs
     exact XM.ne hcs e.symm
   ·exact XM.ne (((R.aW i hi).side y hy).bg hl) e.symm)
 have lt:∀i,i<V.nb->V.bk i<w.heap.size:=fun i hi=>(R.aW i hi).aB.lt
 refine⟨R.aO.aC k (Ne.symm (XM.ne R.dA)) (fun y hy e=>by
  obtain⟨c,t',hc,_⟩:=R.aO.aO.fZ hy
  exact XM.ne hc e.symm),⟨fB,mB',?_,?_⟩,⟨fO,mO.aC k (fun e=>R.E5 e.symm),tZ⟩,R.E5,?_,?_,?_,?_,?_,R.gp⟩
 ·intro i hi
  by_cases e:i=V.nb
  ·subst e;simp only[aQ.list,aj];exact f1
  ·have hi':i<V.nb:=by simp only[aQ.list]at hi;omega
   simp only[aQ.list,ah _ _ e]
   rw[f2 _ (hfree i hi')]
   exact g1 i hi'
 ·intro s' b' h
  by_cases e:s'=s
  ·subst e
   rw[f1]at h
   simp only[Option.some.injEq]at h
   exact⟨V.nb,by simp[aQ.list],by simp only[aQ.list,aj];exact h.symm,by simp only[aQ.list,aj];rfl⟩
  ·rw[f2 _ e]at h
   obtain⟨i,hi,h1,h2⟩:=g2 s' b' h
   have:i≠V.nb:=by omega
   exact⟨i,by simp only[aQ.list];omega,by simp only[aQ.list,ah _ _ this];exact h1,by simp only[aQ.list,ah _ _ this];exact h2⟩
 ·intro i hi
  by_cases e:i=V.nb
  ·subst e
   simp only[aQ.list,aj]
   exact⟨hblk,fun y hy=>.inl ⟨rfl,rfl,rfl⟩,fun a h=>by simp[kK,gG]at h,fun l j hl=>absurd hl (Nat.not_lt_zero l)⟩
  ·have hi':i<V.nb:=by simp only[aQ.list]at hi;omega
   simp only[aQ.list,ah _ _ e]
   exact bk i hi'
 ·intro id x h
  obtain⟨h1,ix,h2⟩:=R.bg id x h
  exact⟨h1,ix,ne h2⟩
 ·intro i hi y hy l hl
  by_cases e:i=V.nb
  ·subst e;simp only[aQ.list,aj]at hl;exact absurd hl (Nat.not_lt_zero l)
  ·have hi':i<V.nb:=by simp only[aQ.list]at hi;omega
   simp only[aQ.list,ah _ _ e]at hl ⊢
   exact R.mem i hi' y hy l hl
 ·intro i j hi hj hne
  simp only[aQ.list]at hi hj ⊢
  by_cases e:i=V.nb
  ·have e2:j≠V.nb:=by omega
   rw[e,aj,ah _ _ e2]
   have:=lt j (by omega)
   omega
  ·rw[ah _ _ e]
   by_cases e2:j=V.nb
   ·rw[e2,aj]
    have:=lt i (by omega)
    omega
   ·rw[ah _ _ e2]
    exact R.qL i j (by omega) (by omega) hne
 ·intro i j hi hj hne x y hx hy z h1 h2
  simp only[aQ.list]at hi hj h1 h2
  by_cases e:i=V.nb
  ·rw[e,aj]at h1;exact vP s x z h1
  ·by_cases e2:j=V.nb
   ·rw[e2,aj]at h2;exact vP s y z h2
   ·rw[ah _ _ e]at h1
    rw[ah _ _ e2]at h2
    exact R.lZ i j (by omega) (by omega) hne x y hx hy z h1 h2
def RS.pV(S:RS)(i:Nat)(n:Int):RS:={ S with places:=wrap64 (S.places+1),l:=S.l.set i { ax S.l i with place:=wrap64 (S.places+1),aK:=wrap64 ((ax S.l i).aK+n) } }
end Go.Proofs.YtigaphnafnpfnaaGreatDoor
