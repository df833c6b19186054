import Derived.Test.YtigaphnafnpfnaaGreatDoorQVC6
import Derived.Test.YtigaphnafnpfnaaGreatDoorQVX7
set_option linter.unusedVariables false
set_option linter.unusedSimpArgs false
set_option maxHeartbeats 8000000
set_option maxRecDepth 100000
namespace Go.Proofs.YtigaphnafnpfnaaGreatDoor
open Go.RowKit Go.Maps
attribute [local go_sem ↓] Go.wp_at_zero Go.wp_at_succ
theorem Gy(bv:Nat)(N a:Int)(again:Bool)(po:Option Addr)(w:World)(c:a≠0)(h:∀b,aj aA w b->CT 71 #[PP bv,II N] b fun e w'=>e=.returned (.tuple #[.pointer po,II a])/\aj aA b w') :
 CT 39 #[PP bv,II N,.bool again] w fun e w'=>e=.returned (II a)/\aj aA w w':=by
 have g:(a != 0)=true:=by simp[c]
 have d:aj aA w (w.alloc (.cells #[PP bv] 35)):=(aj.refl aA w).alloc _;have H:=ai (h _ d);clear c h;go_enter Tryz.func39,Tryz.ntmps39;go_wp2_with fail;refine (ae H).mono ?_;rintro e i ⟨rfl,f⟩;go_wp2;go_ret;exact⟨rfl,(d.trans f).alloc _⟩
theorem yE(bv:Nat)(N a af:Int)(po:Option Addr)(w:World)(c:a≠0)(h:∀b,aj aA w b->CT 71 #[PP bv,II N] b fun e w'=>e=.returned (.tuple #[.pointer po,II a])/\aj aA b w') :
 CT 40 #[PP bv,II N,II af] w fun e w'=>e=.returned (II a)/\aj aA w w':=by
 have g:(a != 0)=true:=by simp[c]
 have d:aj aA w (w.alloc (.cells #[PP bv] 35)):=(aj.refl aA w).alloc _;have H:=ai (h _ d);clear c h;go_enter Tryz.func40,Tryz.ntmps40;go_wp2_with fail;refine (ae H).mono ?_;rintro e i ⟨rfl,f⟩;go_wp2;go_ret;exact⟨rfl,(d.trans f).alloc _⟩
open Go.RowKit
def pO(q:Bool)(t:TypeId):Prop:=t=114\/t=54\/t=111\/t=3\/t=35\/t=52\/t=9\/t=56\/(q=true/\t=103)
def dU.sF:dU->Bool
 | .jV _=>true
 | .iV _ _=>true
 | _=>false
def WL(w:World)(bv:Nat)(id:Int)(lo:Nat)(fn:Fn)(cp:Array Value):Prop:=fn=.func 114/\∃H c,lo<=H/\cp=#[dh H,dh (H+1)]/\au w H #[dh bv] 35/\au w (H+1) c 52/\c[0]?=some (II id)
def WM(w:World)(bv:Nat)(s:ByteArray)(lo:Nat)(fn:Fn)(cp:Array Value):Prop:=fn=.func 54/\∃H K,lo<=H/\lo<=K/\cp=#[dh H,dh K]/\au w H #[dh bv] 35/\au w K #[.string s] 9
def WO(w:World)(bv:Nat)(t:Tr)(lo:Nat)(fn:Fn)(cp:Array Value):Prop:=fn=.func 211/\∃H,lo<=H/\cp=#[dh H,dh (H+1)]/\au w H #[dh bv] 35/\au w (H+1) t.cells.toArray 56
def WI(w:World)(bv tb:Nat)(lo:Nat)(fn:Fn)(cp:Array Value):Prop:=fn=.func 74/\∃H K,lo<=H/\lo<=K/\cp=#[dh K,dh H]/\au w H #[dh bv] 35/\au w K #[dh tb] 103
def WN(w:World)(bv tb:Nat)(p:Int)(lo:Nat)(fn:Fn)(cp:Array Value):Prop:=fn=.func 77/\∃H K J,lo<=H/\lo<=K/\lo<=J/\cp=#[dh H,dh K,dh J]/\au w H #[dh bv] 35/\au w K #[dh tb] 103/\au w J #[II p] 3
def WJ(w:World)(bv:Nat)(lo:Nat)(fn:Fn)(cp:Array Value):Prop:=fn=.func 79/\∃H,lo<=H/\cp=#[dh H]/\au w H #[dh bv] 35
def bH(w:World)(bv:Nat)(bk:Nat->Nat)(lo:Nat)(d:dU)(c:Value):Prop:=∃fn cp,c=.func fn #[] cp /\
 match d with
 | .fV b o=>jT w b o lo fn cp
 | .left b=>jr w (bk b) b lo fn cp
 | .eQ b p=>lq w (bk b) b p lo fn cp
 | .entered id=>WL w bv id lo fn cp
 | .bU s=>WM w bv s lo fn cp
 | .jh t=>WO w bv t lo fn cp
 | .jV tb=>WI w bv tb lo fn cp
 | .iV tb p=>WN w bv tb p lo fn cp
 | .closed=>WJ w bv lo fn cp
def nZ(w:World)(lo:Nat)(q:Bool)(S:Nat->Prop):Prop:=∀b,S b->b<lo\/∀c t,au w b c t->¬pO q t
theorem nZ.ay{w w':World}{lo:Nat}{q:Bool}{S:Nat->Prop}(h:nZ w lo q S)(k:aj S w w'){b:Nat}{c:Array Value}{t:TypeId}(a:au w b c t)(f:lo<=b)(d:pO q t):au w' b c t:=by
 refine k.ay a (fun hs=>?_);rcases h b hs with e | e
 ·omega
 ·exact e c t a d
theorem nZ.non(w:World)(lo:Nat)(q:Bool):nZ w lo q aA:=fun b h=>h.elim
theorem nZ.gZ{w:World}{lo:Nat}{q:Bool}{S:Nat->Prop}(h:∀b,S b->∃c t,au w b c t/\¬pO q t):nZ w lo q S:=fun b f=>.inr (fun c t d g=>by
 obtain⟨j,k,a,i⟩:=h b f;unfold au at d a;rw[d]at a;simp only[Option.some.injEq,Obj.cells.injEq]at a;obtain⟨_,e,_⟩:=a;subst e;exact i g)
section
variable {w w' : World} {bv : Nat} {bk : Nat -> Nat} {lo : Nat} {d : dU} {c : Value} {q : Bool} {S : Nat -> Prop}
theorem bH.aC(h:bH w bv bk lo d c)(n:d.sF=true->q=true)(k:aj S w w')(o:nZ w lo q S):bH w' bv bk lo d c:=by
 obtain⟨fn,u,rfl,h⟩:=h;refine⟨fn,u,rfl,?_⟩;cases d with
 | fV b od =>
   obtain⟨e,H,h0,a,f,g⟩:=h;exact⟨e,H,h0,a,o.ay k f h0 (.inl rfl),o.ay k g (by omega) (.inr (.inl rfl))⟩
 | left b =>
   obtain⟨e,H,h0,a,f,g⟩:=h;exact⟨e,H,h0,a,o.ay k f h0 (jL rfl),o.ay k g (by omega) (.inl rfl)⟩
 | eQ b p =>
   obtain⟨e,H,h0,a,⟨f,g⟩,l⟩:=h;exact⟨e,H,h0,a,⟨o.ay k f h0 (jL rfl),o.ay k g (by omega) (.inl rfl)⟩,o.ay k l (by omega) (iQ rfl)⟩
 | entered id =>
   obtain⟨e,H,cs,h0,a,f,g,l⟩:=h;exact⟨e,H,cs,h0,a,o.ay k f h0 (qo rfl),o.ay k g (by omega) (ol5 rfl),l⟩
 | bU s =>
   obtain⟨e,H,j,h0,i,a,f,g⟩:=h;exact⟨e,H,j,h0,i,a,o.ay k f h0 (qo rfl),o.ay k g i (XZ rfl)⟩
 | jh t =>
   obtain⟨e,H,h0,a,f,g⟩:=h;exact⟨e,H,h0,a,o.ay k f h0 (qo rfl),o.ay k g (by omega) (ol7 rfl)⟩
 | jV tb =>
   obtain⟨e,H,j,h0,i,a,f,g⟩:=h;exact⟨e,H,j,h0,i,a,o.ay k f h0 (qo rfl),o.ay k g i (X5 ⟨n rfl,rfl⟩)⟩
 | iV tb p =>
   obtain⟨e,H,j,r,h0,i,m,a,f,g,l⟩:=h;exact⟨e,H,j,r,h0,i,m,a,o.ay k f h0 (qo rfl),o.ay k g i (X5 ⟨n rfl,rfl⟩),o.ay k l m (iQ rfl)⟩
 | closed =>
   obtain⟨e,H,h0,a,f⟩:=h;exact⟨e,H,h0,a,o.ay k f h0 (qo rfl)⟩
end
structure iy(w:World)(bv:Nat)(bk:Nat->Nat)(lo:Nat)(q:Bool)(old:List (List Value))(nt:List dU)(dP:List Nat)(m:Lm)(cl:List Value):Prop where
 tb:m.tb=dP
 ac:m.ac.map Prod.snd=old++[cl]
 len:cl.length=nt.length
 sF:∀d∈nt,d.sF=true->q=true
 pU:∀(i:Nat) (d:dU) (c:Value),nt[i]?=some d->cl[i]?=some c->bH w bv bk lo d c
 tvl:∀d∈nt,d.sF=true->∀g,m.tv.ownBlock=some g->g<lo
theorem iy.aC{w w':World}{bv:Nat}{bk:Nat->Nat}{lo:Nat}{q:Bool}{e:List (List Value)}{nt:List dU}{dP:List Nat}{m:Lm}{a:List Value}(h:iy w bv bk lo q e nt dP m a){S:Nat->Prop}(k:aj S w w')(o:nZ w lo q S):iy w' bv bk lo q e nt dP m a :=
 ⟨h.tb,h.ac,h.len,h.sF,fun i d c b f=>(h.pU i d c b f).aC (h.sF d (List.mem_of_getElem? b)) k o,h.tvl⟩
theorem iy.ax{w w':World}{bv:Nat}{bk:Nat->Nat}{lo:Nat}{q:Bool}{b:List (List Value)}{nt:List dU}{dP:List Nat}{m:Lm}{a:List Value}(h:iy w bv bk lo q b nt dP m a)(k:aj aA w w'):iy w' bv bk lo q b nt dP m a:=h.aC k (nZ.non w lo q)
theorem iy.Sv{w:World}{bv:Nat}{bk:Nat->Nat}{lo:Nat}{q:Bool}{f:List (List Value)}{nt:List dU}{dP:List Nat}{m m':Lm}{a:List Value}(h:iy w bv bk lo q f nt dP m a)(e:m'.ac=m.ac)(j:∀d∈nt,d.sF=true->m'.tv=m.tv):iy w bv bk lo q f nt m'.tb m' a:=⟨rfl,by rw[e];exact h.ac,h.len,h.sF,h.pU,fun d c b g i=>h.tvl d c b g (by rw[<-j d c b];exact i)⟩
theorem iy.more{w:World}{bv:Nat}{bk:Nat->Nat}{lo:Nat}{q:Bool}{j:List (List Value)}{nt ds:List dU}{dP:List Nat}{m m':Lm}{e news:List Value}(h:iy w bv bk lo q j nt dP m e)(v:m'.tb=m.tb)(s:m'.ac.map Prod.snd=j++[e++news])(u:news.length=ds.length)(p:∀d∈ds,d.sF=true->q=true)(t:∀(i:Nat) (d:dU) (c:Value),ds[i]?=some d->news[i]?=some c->bH w bv bk lo d c)(o:m'.tv=m.tv)(r:∀d∈ds,d.sF=true->∀g,m.tv.ownBlock=some g->g<lo):iy w bv bk lo q j (nt++ds) dP m' (e++news):=by
 refine⟨by rw[v];exact h.tb,s,by rw[List.length_append,List.length_append,h.len,u],fun d a=>(List.mem_append.1 a).elim (h.sF d) (p d),fun i d c a b=>?_,fun d a k g l=>(List.mem_append.1 a).elim (fun f=>h.tvl d f k g (by rw[<-o];exact l)) (fun f=>r d f k g (by rw[<-o];exact l))⟩;by_cases n:i<nt.length
 ·rw[List.getElem?_append_left n]at a;rw[List.getElem?_append_left (by rw[h.len];exact n)]at b;exact h.pU i d c a b
 ·rw[List.getElem?_append_right (by omega)]at a;rw[List.getElem?_append_right (by rw[h.len];omega),h.len]at b;exact t _ d c a b
theorem L9(bv o p:Nat)(G:Lg)(m:Lm)(line:ByteArray)(w:World)(f:bz w bv o p G m)(U:G.ud+G.na<3000000)(h0:0<line.size)(R:line.size<=290) :
 CT 51 #[PP bv,.string line] w fun e w'=>e=.returned (.tuple #[]) /\
  ∃m',bz w' bv o p G.begun m'/\(∀b,m'.F b->m.F b\/w.heap.size<=b)/\aj (fun b=>b=bv\/m.av.ownBlock=some b\/m.jv.ownBlock=some b) w w'/\(m'.tb=m.tb/\m'.tv=m.tv)/\m'.ac.map Prod.snd=m.ac.map Prod.snd++[[]]:=by
 obtain⟨n,u⟩:=dQ G.na;have q:∃j k,m.av=.slice j n k:=by
  have i:=f.aO.act.row;rw[f.aO.act.len,u]at i;exact AL i
 obtain⟨j,k,q⟩:=q;obtain⟨i0,Q,V,W,X⟩:=QP;have T:n+1<=maxLen:=by unfold maxLen;omega
 have S:(n+1) * 24<=140737488355328:=by omega
 have O:=ai (D8 bv o p G m (G.ud+G.na) line w f U h0 R);obtain⟨Y,d,y⟩:=fK f q u;clear f q u;go_enter Tryz.func51,Tryz.ntmps51;go_wp2_with (first
  | (go_at_call 44;refine (ae O).mono ?_;rintro e a ⟨rfl,jv,jn,c,z,B⟩;have l:=ai c;have J:=ai z;have L:=ai B;have v5:CC a bv 5 (.slice j n k):=(c.cO.cell 5).trans (by rw[<-ae d];rfl);have Z:=c.cO.frozen 5;have lv:=c.cO.lt;have i:a.ownsRow 0 109 1 (.slice j n k) n (m.ac.map Prod.fst):=(by have v:=c.aO.act.row;simp only at v;rw[c.aO.act.len,ae y,ae d]at v;exact v);have N:=ai i;clear c z B i)
  | (at_builtin;refine wpList_append_lies _ rfl _ _ 97 rfl 0 109 i0 (.slice none 0 0) 1 24 Tryz.underlying97 Q V W X rfl (by decide) (.slice j n k) n _ rfl (aB (ae N) ((aj.refl aA a).alloc _) (fun _ _ x=>x)) ⟨a.heap.size,0,none⟩ 1 1 [.slice none 0 0] rfl rfl (World.news_of_block (au.new a #[.slice none 0 0] 109)) (by simp[Value.oneCell']) (by omega) T S (by omega) (a.heap.size+1) (by simp) ?_;intro g cap w2 C t A hlt;have M:=ai C;have K:=ai t;have I:=ai A;have r:au w2 bv (rZ o p { m with jv:=jv,jn:=jn } G.day) 100:=(t.block bv ((ae l).cO.alloc _).lt (fun e=>(ae l).JH (iQ (by show m.av.ownBlock=_;rw[ae d];exact e.symm)))).trans ((ae l).cO.alloc _);have H:=r.cell 5;have f52:=r.frozen 5;simp only[rZ]at H;simp at H;clear C t A r))
 go_end0;have D:aj aA a (a.alloc (.cells #[.slice none 0 0] 109)):=(aj.refl aA a).alloc _;have s:=((ae l).ax D).UC (Nat.le_refl _) (ae y) (ae M) (by show World.grownBy _ w2 m.av.ownBlock;rw[ae d];exact ae K) (by show m.av.ownBlock=_\/_;rw[ae d];exact ae I) (by simp);have E:=ae L;refine⟨rfl,_,s.1,fun b P=>?_,?_,⟨rfl,rfl⟩,by simp⟩
 ·rcases s.2.1 b P with h | h
  ·rcases h with h | (h | h) | h | h
   ·exact .inl (.inl h)
   ·exact .inl (.inr (.inl (.inl h)))
   ·exact (ae J b h).imp_left (fun h=>.inr (.inl (.inr h)))
   ·exact .inl (jL h)
   ·exact .inl (BA h)
  ·have:=E.size;exact .inr (by omega)
 ·exact (E.mono (fun b h=>h.imp_right .inr)).trans ((D.aP.trans s.2.2).mono (fun b h=>h.imp_right .inl))
theorem U3(bv P Q:Nat)(G:Lg)(m:Lm)(ds:List dU)(news:List Value)(L c kc:Nat)(w:World)(l:bz w bv P Q G m)(hna:0<G.na)(kX:G.na<=3000000)(hnf:G.nt.length+c<1000000000)(v:0<c)(QE:ds.length=c)(Y:news.length=c)(hnews:∀j H,news[j]?=some H->w.cell? ((⟨L,0,none⟩:Addr).add j)=some H)(hone:∀H∈news,H.oneCell'=true) :
 CT 53 #[PP bv,.slice (some ⟨L,0,none⟩) c kc] w fun e w'=>e=.returned (.tuple #[]) /\
  ∃m',bz w' bv P Q (G.aY ds) m'/\(∀b,m'.F b->m.F b\/w.heap.size<=b)/\aj (fun b=>gK m.av m.ac b) w w'/\(∀b,gK m'.av m'.ac b->gK m.av m.ac b\/w.heap.size<=b)/\(m'.tb=m.tb/\m'.tv=m.tv)/\∃old R,m.ac.map Prod.snd=old++[R]/\m'.ac.map Prod.snd=old++[R++news]:=by
 obtain⟨n,C⟩:=dQ G.na;have i:=l.aO.act;obtain⟨E,⟨x,fs⟩,s⟩:=yO m.ac (by rw[i.len];exact hna);have B:=i.len;rw[s,List.length_append,C]at B;simp at B;obtain⟨k,X⟩:∃k,k+1=n:=⟨E.length,B⟩;have D:=i.row;rw[i.len,C]at D;obtain⟨d,O,u,_,hga⟩:=D.form (by omega);rcases D.2 with⟨e,_⟩ | ⟨g',cap',p,e,h0,f,h1,h2,h3,T⟩
 ·rw[u]at e;simp at e
 have S:=u.symm.trans e;simp only[Value.slice.injEq,Option.some.injEq,Addr.mk.injEq]at S;obtain⟨⟨e1,_⟩,_,e2⟩:=S;subst e1 e2;have y:=i.last (x,fs) (by rw[s];simp);simp only at y;have hown:=i.own (x,fs) (by rw[s];simp);simp only at hown;obtain⟨r,t,o⟩:=AL hown;rw[y]at o;obtain⟨q,K⟩:=dQ fs.length;rw[K]at hown y;rw[<-y]at o;rw[o]at hown;have z:au w d p 109:=f;have J:p[k]?=some x:=by
  have:p.toList.take (n * 1)=E.map Prod.fst++[x]:=by rw[T,s];simp
  have U:(p.toList.take (n * 1))[k]?=some x:=by
   rw[this];have e:k=(E.map Prod.fst).length:=by rw[List.length_map];omega
   rw[e];simp
  rw[List.getElem?_take_of_lt (by omega)]at U
  simpa using U
 have cK:w.cell? ⟨d,k,none⟩=some (.slice r q t):=by rw[z.cell k,J,o]
 have v5:CC w bv 5 (.slice (some ⟨d,0,none⟩) n O):=(l.cO.cell 5).trans (by rw[<-u];rfl);have hkn:k<n:=by omega
 have hki:(n:Int)-1=(k:Int):=by omega
 have hkw:wrap64 (k:Int)=(k:Int):=by unfold wrap64;omega
 have Z:(Value.slice r q t).ownBlock≠some d:=fun e=>by
  obtain⟨cs,v⟩:=aF hown e;exact au.ne v z (by decide) rfl
 have hnv:(Value.slice r q t).ownBlock≠some bv:=fun e=>by
  obtain⟨cs,v⟩:=aF hown e;exact au.ne v l.cO (by decide) rfl
 have HNv:=ai hnv;clear hnv;obtain⟨HOn,HNw,HL,HB⟩:=gY hown hnews l z;have YY:=ai (show p[k]?=some (.slice r q t) by rw[J,o]);obtain⟨M,Yo,HN,HK,HHd,N,abf,HNd,HLn,hv⟩:=QG s u C X o K hone Z Y l.cO;have lv:=l.cO.lt;have hnb:q+c<=2000000000:=by omega
 clear hown hnews l z J s u C X o K hone Z f i B D h0 h1 h2 h3 T e y Y hnf;go_enter Tryz.func53,Tryz.ntmps53;go_wp2;go_region_law (first | (refine zh rfl (.tmp 22) (.tmp 23) rfl r q t fs rfl (ae HOn) ⟨L,0,none⟩ c kc news rfl (by rw[ae HLn];omega) (ae HNw) (ae abf) v hnb w.heap.size rfl ?_;intro g cap w2 hown2 A V hlt;have Ec:=ai hown2;have HG2:=ai A;have HA2:=ai V;have I:au w2 d p 109:=(A.block d hga (fun e=>ae HNd e.symm)).trans (ae HB);have c2:CC w2 d k (.slice r q t):=(I.cell k).trans (ae YY);have f2:=I.frozen k;have v52:CC w2 bv 5 (.slice (some ⟨d,0,none⟩) n O):=(World.cell?_of_block (a:=⟨bv,5,none⟩) (A.block bv lv (fun e=>ae HNv e.symm))).trans v5;clear hown2 A V I))
 all_goals
  go_end0;have W:=ae HHd;have f:=((ae HL).ax (aj.refl aA w).drew).Qz (ds:=ds) (c:=c) (fs:=fs) (news:=news) (ae M) (ae Yo) (ae HN) (ae HK) (by rw[ae N];exact ae Ec) (by rw[W];exact ae HG2) (by rw[W];exact ae HA2) rfl QE;rw[ae N]at f;exact⟨rfl,_,f.1,f.2.1,(aj.refl _ w).drew.trans f.2.2.1,f.2.2.2,⟨rfl,rfl⟩,E.map Prod.snd,fs,by rw[ae M];simp,by simp⟩
theorem OA{t:TypeId}{q:Bool}(h:t=109\/t=1):¬pO q t:=by
 rintro (e | e | e | e | e | e | e | e | ⟨_,e⟩) <;> (rw[e]at h;revert h;decide)
theorem F7.off{w:World}{av:Value}{ac:List (Value × List Value)}{na f:Nat}(h:F7 w av ac na f)(lo:Nat)(q:Bool):nZ w lo q (fun b=>gK av ac b):=nZ.gZ (fun b a=>by
 obtain⟨c,t,d,e⟩:=h.gZ a;exact⟨c,t,d,OA e⟩)
theorem Ry(bv k l:Nat)(G:Lg)(m:Lm)(ds:List dU)(news:List Value)(r c C:Nat)(w:World)(bk:Nat->Nat)(lo:Nat)(q:Bool)(p:List (List Value))(dP:List Nat)(a:List Value)(u:bz w bv k l G m)(t:iy w bv bk lo q p G.nt dP m a)(x:∀d∈ds,d.sF=true->q=true)(M:∀(i:Nat) (d:dU) (c:Value),ds[i]?=some d->news[i]?=some c->bH w bv bk lo d c)(O:0<G.na)(P:G.na<=3000000)(Q:G.nt.length+c<1000000000)(o:0<c)(z:ds.length=c)(A:news.length=c)(hnews:∀j f,news[j]?=some f->w.cell? ((⟨r,0,none⟩:Addr).add j)=some f)(hone:∀f∈news,f.oneCell'=true)(N:∀d∈ds,d.sF=true->∀g,m.tv.ownBlock=some g->g<lo) :
 CT 53 #[PP bv,.slice (some ⟨r,0,none⟩) c C] w fun e w'=>e=.returned (.tuple #[]) /\
  ∃m',bz w' bv k l (G.aY ds) m'/\(∀b,m'.F b->m.F b\/w.heap.size<=b)/\aj (fun b=>gK m.av m.ac b) w w'/\(∀b,gK m'.av m'.ac b->gK m.av m.ac b\/w.heap.size<=b)/\iy w' bv bk lo q p (G.aY ds).nt dP m' (a++news):=by
 have v:=u.aO.act.off lo q;refine (U3 bv k l G m ds news r c C w u O P Q o z A hnews hone).mono ?_;rintro e w' ⟨rfl,m',J,K,n,L,B,R,s,D,E⟩;have H:R++[s]=p++[a]:=by rw[<-D,t.ac]
 obtain⟨rfl,I⟩:=List.append_inj' H rfl;obtain rfl:s=a:=by simpa using I
 exact⟨rfl,m',J,K,n,L,(t.aC n v).more B.1 E (by rw[A,z]) x (fun i d c y o=>(M i d c y o).aC (x d (List.mem_of_getElem? y)) n v) B.2 N⟩
theorem V4(bv j k:Nat)(G:Lg)(lm:Lm)(ds:List dU)(a:Array Value)(w:World)(bk:Nat->Nat)(lo:Nat)(q:Bool)(o:List (List Value))(dP:List Nat)(l:List Value)(A:bz w bv j k G lm)(z:iy w bv bk lo q o G.nt dP lm l)(p:∀d∈ds,d.sF=true->q=true)(y:∀(i:Nat) (d:dU) (c:Value),ds[i]?=some d->a.toList[i]?=some c->bH w bv bk lo d c)(D:0<G.na)(E:G.na<=3000000)(H:G.nt.length+a.size<1000000000)(n:0<a.size)(C:ds.length=a.size)(hone:∀I∈a.toList,I.oneCell'=true)(B:∀d∈ds,d.sF=true->∀g,lm.tv.ownBlock=some g->g<lo) :
 CT 53 #[PP bv,.slice (some ⟨w.heap.size,0,none⟩) a.size a.size] (w.alloc (.cells a 1)) fun e w'=>e=.returned (.tuple #[]) /\
  ∃bG,bz w' bv j k (G.aY ds) bG/\(∀b,bG.F b->lm.F b\/w.heap.size<=b)/\aj (fun b=>gK lm.av lm.ac b) w w'/\(∀b,gK bG.av bG.ac b->gK lm.av lm.ac b\/w.heap.size<=b)/\iy w' bv bk lo q o (G.aY ds).nt dP bG (l++a.toList):=by
 have f:aj aA w (w.alloc (.cells a 1)):=(aj.refl aA w).alloc _;refine (Ry bv j k G lm ds a.toList w.heap.size a.size a.size (w.alloc (.cells a 1)) bk lo q o dP l (A.ax f) (z.ax f) p (fun i d c r n=>(y i d c r n).aC (p d (List.mem_of_getElem? r)) f (nZ.non w lo q)) D E H n C (by simp) (World.news_of_block (au.new w a 1)) hone B).mono ?_;rintro e w' ⟨rfl,bG,s,t,u,v,x⟩;exact⟨rfl,bG,s,fun b m=>(t b m).imp_right (fun h=>by simp at h;omega),f.aP.trans u,fun b m=>(v b m).imp_right (fun h=>by simp at h;omega),x⟩
theorem nV(bv f j:Nat)(G:Lg)(lm:Lm)(d:dU)(fn:Fn)(a:Array Value)(w:World)(bk:Nat->Nat)(lo:Nat)(q:Bool)(n:List (List Value))(dP:List Nat)(k:List Value)(s:bz w bv f j G lm)(r:iy w bv bk lo q n G.nt dP lm k)(t:d.sF=true->q=true)(p:bH w bv bk lo d (.func fn #[] a))(v:0<G.na)(y:G.na<=3000000)(z:G.nt.length+1<1000000000)(u:d.sF=true->∀g,lm.tv.ownBlock=some g->g<lo:=by exact fun h=>absurd (show false=true from h) Bool.false_ne_true) :
 CT 53 #[PP bv,.slice (some ⟨w.heap.size,0,none⟩) 1 1] (w.alloc (.cells #[.func fn #[] a] 1)) fun e w'=>e=.returned (.tuple #[]) /\
  ∃bG,bz w' bv f j (G.aY [d]) bG/\(∀b,bG.F b->lm.F b\/w.heap.size<=b)/\aj (fun b=>gK lm.av lm.ac b) w w'/\(∀b,gK bG.av bG.ac b->gK lm.av lm.ac b\/w.heap.size<=b)/\iy w' bv bk lo q n (G.aY [d]).nt dP bG (k++[.func fn #[] a]) :=
 V4 bv f j G lm [d] #[.func fn #[] a] w bk lo q n dP k s r (fun x m=>by rw[List.mem_singleton.1 m];exact t) (fun i A c l o=>by
  cases i with
  | zero=>simp at l o;subst l o;exact p
  | succ i=>simp at l) v y z (by simp) rfl (by simp[Value.oneCell']) (fun x m=>by rw[List.mem_singleton.1 m];exact u)
theorem vP(bv o p:Nat)(G:Lg)(lm:Lm)(d a:dU)(fn m:Fn)(k l:Array Value)(w:World)(bk:Nat->Nat)(lo:Nat)(q:Bool)(s:List (List Value))(dP:List Nat)(r:List Value)(y:bz w bv o p G lm)(v:iy w bv bk lo q s G.nt dP lm r)(z:d.sF=true->q=true)(A:a.sF=true->q=true)(t:bH w bv bk lo d (.func fn #[] k))(u:bH w bv bk lo a (.func m #[] l))(D:0<G.na)(E:G.na<=3000000)(H:G.nt.length+2<1000000000)(B:d.sF=true->∀g,lm.tv.ownBlock=some g->g<lo:=by exact fun h=>absurd (show false=true from h) Bool.false_ne_true)(C:a.sF=true->∀g,lm.tv.ownBlock=some g->g<lo:=by exact fun h=>absurd (show false=true from h) Bool.false_ne_true) :
 CT 53 #[PP bv,.slice (some ⟨w.heap.size,0,none⟩) 2 2] (w.alloc (.cells #[.func fn #[] k,.func m #[] l] 1)) fun e w'=>e=.returned (.tuple #[]) /\
  ∃bG,bz w' bv o p (G.aY [d,a]) bG/\(∀b,bG.F b->lm.F b\/w.heap.size<=b)/\aj (fun b=>gK lm.av lm.ac b) w w'/\(∀b,gK bG.av bG.ac b->gK lm.av lm.ac b\/w.heap.size<=b)/\iy w' bv bk lo q s (G.aY [d,a]).nt dP bG (r++[.func fn #[] k,.func m #[] l]) :=
 V4 bv o p G lm [d,a] #[.func fn #[] k,.func m #[] l] w bk lo q s dP r y v (fun x j=>by simp at j;rcases j with rfl | rfl;exact z;exact A) (fun i I c f n=>by
  match i with
  | 0=>simp at f n;subst f n;exact t
  | 1=>simp at f n;subst f n;exact u
  | i+2=>simp at f) D E H (by simp) rfl (by simp[Value.oneCell']) (fun x j=>by simp at j;rcases j with rfl | rfl;exact B;exact C)
structure KG(ls es:TypeId)(sz:Nat)(M:Nat->List Value)(F:Value->Array Value)(B hb:Nat)(v0:Value)(w:World)(c:Value)(n:Nat)(Wl:List Value)(lv:Value)(wr:World):Prop where
 ay:au wr hb (F lv) 178
 dV:wr.ownsRow B ls 1 lv Wl.length Wl
 cur:wr.ownsRow B es sz c n (M n)
 each:∀v∈Wl,∃a k cc,v=.slice a k cc/\k<=n/\(k=0\/∃g cs,a=some ⟨g,0,none⟩/\au wr g cs es/\cs.toList.take (k * sz)=M k)
 Iw:∀v∈Wl,∀b,v.ownBlock=some b->B<=b/\b<wr.heap.size
 jW:aj (fun b=>v0.ownBlock=some b) w wr
 size:B<=w.heap.size
 gh:w.heap.size<=hb
 Pq:∀b,v0.ownBlock=some b->B<=b
 Xh:∀b,c.ownBlock=some b->v0.ownBlock=some b\/w.heap.size<=b
 Ky:∀b,lv.ownBlock=some b->w.heap.size<=b
theorem KG.bU{m o:TypeId}{C i0:Nat}{M:Nat->List Value}{F:Value->Array Value}{B i:Nat}{v0:Value}{w:World}{a:Option Addr}{cc n:Nat}{f:List Value}{lv:Value}{wr w2:World}{j l:Nat}(h:KG m o C M F B i v0 w (.slice a n cc) n f lv wr)
 (hown:w2.ownsRow B m 1 (.slice (some ⟨j,0,none⟩) (f.length+1) l) (f.length+1) (f++[.slice a n cc])) (T:(wr.alloc (.cells #[.slice a n cc] m)).grownBy w2 lv.ownBlock) (R:lv.ownBlock=some j\/w.heap.size<=j) (Q:∀a b,(F a).setIfInBounds i0 b=F b:=by intros;rfl) (E:m≠178:=by decide) (G:o≠178:=by decide) (H:m≠o:=by decide) :
 KG m o C M F B i v0 w (.slice a n cc) n (f++[.slice a n cc]) (.slice (some ⟨j,0,none⟩) (f.length+1) l) (w2.setCell ⟨i,i0,none⟩ (.slice (some ⟨j,0,none⟩) (f.length+1) l)):=by
 have r:aj (fun b=>lv.ownBlock=some b) wr w2:=((aj.refl (fun b=>lv.ownBlock=some b) wr).alloc _).grown T (fun k e=>.inl e);have ty:∀b,lv.ownBlock=some b->∃cs I,au wr b cs I/\I=m:=fun b c=>by obtain⟨cs,q⟩:=aF h.dV c;exact⟨cs,m,q,rfl⟩
 have x:au w2 i _ 178:=r.ay h.ay (fun e=>by obtain⟨cs,q⟩:=aF h.dV e;exact au.ne q h.ay E rfl);have s:aj (fun b=>b=i) w2 (w2.setCell ⟨i,i0,none⟩ (.slice (some ⟨j,0,none⟩) (f.length+1) l)):=(aj.refl (fun b=>b=i) w2).setCell (p:=⟨i,i0,none⟩) (.inl rfl) _;have V:∀g cs,au wr g cs o->au (w2.setCell ⟨i,i0,none⟩ (.slice (some ⟨j,0,none⟩) (f.length+1) l)) g cs o:=fun g cs A =>
  s.ay (r.ay A (fun e=>by obtain⟨X,q⟩:=aF h.dV e;exact au.ne q A H rfl)) (fun e=>by subst e;exact au.ne h.ay A (fun u=>G u.symm) rfl)
 have Y:wr.heap.size<=(w2.setCell ⟨i,i0,none⟩ (.slice (some ⟨j,0,none⟩) (f.length+1) l)).heap.size:=Nat.le_trans r.size s.size;have D:(w2.setCell ⟨i,i0,none⟩ (.slice (some ⟨j,0,none⟩) (f.length+1) l)).ownsRow B o C (.slice a n cc) n (M n):=by
  have W:=bK (t:=0) h.cur r (fun b c=>by obtain⟨cs,t,q,e⟩:=ty b c;exact⟨cs,t,q,by rw[e];exact H⟩);exact bK (t:=0) W s (fun b c=>by subst c;exact⟨_,_,x,fun u=>G u.symm⟩)
 refine⟨by have:=x.set i0 (.slice (some ⟨j,0,none⟩) (f.length+1) l);rw[Q]at this;exact this,?_,D,fun v d=>?_,fun v d b c=>?_,?_,h.size,h.gh,h.Pq,h.Xh,fun b c=>?_⟩
 ·rw[List.length_append,List.length_singleton];exact bK (t:=0) hown s (fun b c=>by subst c;exact⟨_,_,x,fun u=>E u.symm⟩)
 ·rw[List.mem_append,List.mem_singleton]at d;rcases d with d | d
  ·obtain⟨J,k',K,e,N,z⟩:=h.each v d;refine⟨J,k',K,e,N,?_⟩;rcases z with z | ⟨g,cs,L,O,P⟩
   ·exact .inl z
   ·exact .inr ⟨g,cs,L,V g cs O,P⟩
  ·subst d;refine⟨a,n,cc,rfl,Nat.le_refl _,?_⟩;rcases D.2 with⟨_,h0⟩ | ⟨g,cap,cs,y,_,S,_,_,_,U⟩
   ·exact .inl h0
   ·injection y with y _ _;exact .inr ⟨g,cs,y,S,U⟩
 ·rw[List.mem_append,List.mem_singleton]at d;rcases d with d | d
  ·have:=h.Iw v d b c;exact⟨this.1,by omega⟩
  ·subst d;have:=h.cur.lt b c;exact⟨this.1,by omega⟩
 ·exact h.jW.from ((r.mono (fun b c=>.inr (h.Ky b c))).trans (s.mono (fun b c=>.inr (by have:=h.gh;omega))))
 ·simp only[Value.ownBlock,Option.some.injEq]at c;rcases R with e | e
  ·exact h.Ky b (by rw[e,c])
  ·omega
theorem KG.spare{q f:TypeId}{a:Nat}{M:Nat->List Value}{s:List Value}{F:Value->Array Value}{B y g cc n:Nat}{v0:Value}{w:World}{A:List Value}{lv:Value}{wr w2:World}{o:Obj}(h:KG q f a M F B y v0 w (.slice (some ⟨g,0,none⟩) n cc) n A lv wr)
 (hown:w2.ownsRow B f a (.slice (some ⟨g,0,none⟩) (n+1) cc) (n+1) (M n++s)) (J:(wr.alloc o).grownBy w2 (some g)) (H:∀k,k<=n+1->(M (n+1)).take (k * a)=M k) (K:M n++s=M (n+1):=by rfl) (O:f≠178:=by decide) (P:q≠f:=by decide) :
 KG q f a M F B y v0 w (.slice (some ⟨g,0,none⟩) (n+1) cc) (n+1) A lv w2:=by
 have j:aj (fun b=>b=g) wr w2:=((aj.refl (fun b=>b=g) wr).alloc _).grown J (fun k e=>.inl (by simpa using e.symm));obtain⟨Q,z⟩:=aF h.cur (b:=g) rfl;rw[K]at hown;obtain⟨d,I,N⟩:∃d,au w2 g d f/\d.toList.take ((n+1) * a)=M (n+1):=by
  rcases hown.2 with⟨e,_⟩ | ⟨i,cap,cs,l,_,c,_,_,_,L⟩
  ·cases e
  ·injection l with l _ _;have:g=i:=by simpa using l
   subst this;exact⟨cs,c,L⟩
 refine⟨j.ay h.ay (fun e=>by subst e;exact au.ne h.ay z (fun r=>O r.symm) rfl),bK (t:=0) h.dV j (fun b c=>by subst c;exact⟨_,_,z,fun r=>P r.symm⟩),hown,fun v p=>?_,fun v p b c=>?_,h.jW.from (j.mono (fun b c=>by subst c;exact h.Xh _ rfl)),h.size,h.gh,h.Pq,h.Xh,h.Ky⟩
 ·obtain⟨C,k',D,e,R,m⟩:=h.each v p;refine⟨C,k',D,e,by omega,?_⟩;rcases m with m | ⟨i,cs,u,E,G⟩
  ·exact .inl m
  ·right;by_cases x:i=g
   ·subst x;refine⟨i,d,u,I,?_⟩;have:(d.toList.take ((n+1) * a)).take (k' * a)=d.toList.take (k' * a):=by rw[List.take_take,Nat.min_eq_left (Nat.mul_le_mul_right _ (by omega))]
    rw[<-this,N];exact H k' (by omega)
   ·exact⟨i,cs,u,j.ay E x,G⟩
 ·have:=h.Iw v p b c;have:=j.size;exact⟨by omega,by omega⟩
theorem KG.JM{q d:TypeId}{j:Nat}{M:Nat->List Value}{l:List Value}{F:Value->Array Value}{B p cc n:Nat}{a:Option Addr}{v0 s:Value}{w:World}{r:List Value}{lv:Value}{wr w2:World}{o:Obj}(h:KG q d j M F B p v0 w (.slice a n cc) n r lv wr)
 (hown:w2.ownsRow (wr.alloc o).heap.size d j s (n+1) (M n++l)) (D:(wr.alloc o).grownBy w2 none) (E:M n++l=M (n+1):=by rfl):KG q d j M F B p v0 w s (n+1) r lv w2:=by
 have c:aj aA wr w2:=((aj.refl aA wr).alloc _).grown D (fun k e=>by cases e);have sw:=h.jW.size;rw[E]at hown;have J:(wr.alloc o).heap.size=wr.heap.size+1:=by simp
 have I:=h.size;refine⟨c.ay h.ay idd,aB h.dV c (fun _ _ G=>G),?_,fun v i=>?_,fun v i b f=>?_,h.jW.trans c.aP,h.size,h.gh,h.Pq,fun b f=>.inr (by have:=(hown.lt b f).1;omega),h.Ky⟩
 ·exact⟨hown.1,hown.2.imp_right (fun ⟨g,cap,cs,x,m,y⟩=>⟨g,cap,cs,x,by omega,y⟩)⟩
 ·obtain⟨t,k',u,e,H,z⟩:=h.each v i;refine⟨t,k',u,e,by omega,z.imp_right (fun ⟨g,cs,m,A,C⟩=>⟨g,cs,m,c.ay A idd,C⟩)⟩
 ·have:=h.Iw v i b f;have:=c.size;exact⟨by omega,by omega⟩
end Go.Proofs.YtigaphnafnpfnaaGreatDoor
