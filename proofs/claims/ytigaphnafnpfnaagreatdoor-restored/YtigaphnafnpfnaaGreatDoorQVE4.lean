import Derived.Shelf.Small.Bits
import Derived.Shelf.SlSortCmp.Kit1
import Derived.Shelf.GgSortFunc.Compose
import Derived.Shelf.SlSortCmp.Whole1
import Derived.Laws.AppendOwn
import Derived.Test.YtigaphnafnpfnaaGreatDoorQVRd3
set_option linter.unusedVariables false
set_option linter.unusedSimpArgs false
set_option maxHeartbeats 8000000
set_option maxRecDepth 100000
namespace Go.Proofs.YtigaphnafnpfnaaGreatDoor
open Go.RowKit
attribute [local go_sem ↓] Go.wp_at_zero Go.wp_at_succ
theorem XA(w:World):CT 158 #[.int .u64 0] w fun e w'=>(∃n,e=.returned (II n))/\w'=w:=by
 have h75:CT 188 #[.int .u64 0] w fun e w'=>(∃n,e=.returned (II n))/\w'=w:=by
  go_enter Tryz.func188,Tryz.ntmps188;go_wp2
  all_goals (go_ret;exact⟨⟨_,rfl⟩,rfl⟩)
 go_enter Tryz.func158,Tryz.ntmps158;go_wp2_with (go_at_call 188;refine h75.mono ?_;rintro e w' ⟨⟨n,rfl⟩,rfl⟩)
 all_goals (go_ret;exact⟨⟨_,rfl⟩,rfl⟩)
theorem Jf(fv:Value)(w:World):CT 179 #[.slice none 0 0,II 0,II 0,fv] w fun e w'=>e=.returned (.tuple #[])/\w'=w:=by
 go_enter Tryz.func179,Tryz.ntmps179;go_wp2;refine wp_loop_rounds 1 ?_;rw[rounds_succ];go_wp2;go_end0;exact⟨rfl,rfl⟩
theorem ab4(lim:Int)(fv:Value)(w:World):CT 157 #[.slice none 0 0,II 0,II 0,II lim,fv] w fun e w'=>e=.returned (.tuple #[])/\w'=w:=by
 go_enter Tryz.func157,Tryz.ntmps157;go_wp2;refine wp_loop_rounds 1 ?_;rw[rounds_succ];go_wp2_with (go_at_call 179;refine (Jf _ _).mono ?_;rintro e w' ⟨rfl,rfl⟩)
 (try simp only[Exit.inBlock,Exit.then])
 refine bodyPost_ret (results_none rfl _ _ _) rfl ?_;exact⟨rfl,rfl⟩
theorem NR(fv:Value)(w:World):CT 128 #[.slice none 0 0,fv] w fun e w'=>e=.returned (.tuple #[])/\w'=w:=by
 go_enter Tryz.func128,Tryz.ntmps128;go_wp2_with (first | (go_at_call 158;refine (XA _).mono ?_;rintro e w' ⟨⟨n,rfl⟩,rfl⟩) | (go_at_call 157;refine (ab4 _ _ _).mono ?_;rintro e w' ⟨rfl,rfl⟩));go_end0;exact⟨rfl,rfl⟩
open Go.RowKit Go.Sort
theorem qK(a b:Ord):mg a b=true↔((if a.side=0 then b.af<a.af else a.af<b.af)\/(a.af=b.af/\a.place<b.place)):=by
 unfold mg kY Wp mZ;simp only[decide_eq_true_eq];by_cases hs:a.side=0 <;> simp only[hs,if_true,if_false] <;> (repeat' split) <;> omega
theorem iF(a b:Ord):mg a b=false↔¬((if a.side=0 then b.af<a.af else a.af<b.af)\/(a.af=b.af/\a.place<b.place)):=by
 rw[<-qK,Bool.not_eq_true]
theorem lV(om:Nat->Ord)(s:Int):WO (fP om) (fun x=>(om x).side=s):=by
 refine⟨?_,?_,?_⟩
 ·intro x y hx hy h;unfold fP at *;rw[qK]at h;rw[iF];rw[hx]at h;rw[hy];split at h <;> simp_all <;> omega
 ·intro x y z hx hy hz h1 h2;unfold fP at *;rw[iF]at *;rw[hy]at h1;rw[hz]at h2;rw[hz];by_cases hs:s=0 <;> simp only[hs,if_true,if_false]at * <;> omega
 ·intro x hx;unfold fP at *;rw[iF];split <;> omega
def Rl(w:World)(om:Nat->Ord)(s:Int)(x:Nat):Prop:=(∃ix,df w x (om x) ix)/\(om x).side=s
def FV{w:World}{om:Nat->Ord}{s:Int}(x:{ x:Nat // Rl w om s x }):Value:=vC x.1
def cfL{w:World}{om:Nat->Ord}{s:Int}(x y:{ x:Nat // Rl w om s x }):Int:=kY (om x.1) (om y.1)
theorem Gq{w:World}{om:Nat->Ord}{s:Int}(x y:{ x:Nat // Rl w om s x }):ltOf cfL x y=fP om x.1 y.1:=rfl
theorem acr(w:World)(om:Nat->Ord)(s:Int):SWO (ltOf (@cfL w om s)):=by
 have pre:=lV om s;refine⟨fun x=>?_,fun x y z h1 h2=>?_,fun x y z h1 h2=>?_⟩
 ·rw[Gq];exact pre.irr _ x.2.2
 ·rw[Gq]at *;cases h:fP om x.1 z.1 with
  | true=>rfl
  | false =>
    have h3:=pre.trans y.1 z.1 x.1 y.2.2 z.2.2 x.2.2 (pre.WV _ _ y.2.2 z.2.2 h2) h;rw[h3]at h1;exact h1
 ·rw[Gq]at *;exact pre.trans z.1 y.1 x.1 z.2.2 y.2.2 x.2.2 h2 h1
theorem Bv{α:Type}[Inhabited α](enc:α->Value)(w:World)(aF off m:Nat)(dk:Array α)(os:Array Obj){k:Nat}(hk:k<w.heap.size)(hne:k≠aF):(sortWorld enc w aF off m dk os).heap[k]?=w.heap[k]?:=by
 unfold sortWorld putRow mapBlock grow;simp only[Array.getElem?_append,Array.size_modify,Array.getElem?_modify];rw[if_pos (by simpa [Sort.ahead] using hk),if_neg (fun e=>hne e.symm)]
 rfl
theorem vH{α:Type}[Inhabited α](enc:α->Value)(w:World)(aF off m:Nat)(dk:Array α)(os:Array Obj):aj (fun x=>x=aF) w (sortWorld enc w aF off m dk os) :=
 ⟨rfl,rfl,rfl,by simp[sortWorld,putRow,mapBlock,grow,Sort.ahead],fun k hk hne=>Bv enc w aF off m dk os hk hne⟩
theorem aa7{w:World}{om:Nat->Ord}{s:Int}[Inhabited { x:Nat // Rl w om s x }]{aF size:Nat}{cs:Array Value}(hb:aA w aF cs 114):CmpLays1 Tryz.prog 83 #[] (@FV w om s) cfL aF 0 size w:=by
 intro m os dk hs x y;obtain⟨ix,hx⟩:=x.2.1;obtain⟨iy,hy⟩:=y.2.1;have k:=vH (@FV w om s) w aF 0 m dk os;exact SA x.1 y.1 _ _ ix iy _ (k.aF hx (aA.ne hx hb (by decide))) (k.aF hy (aA.ne hy hb (by decide)))
theorem Vj{w:World}{om:Nat->Ord}{s:Int}[Inhabited { x:Nat // Rl w om s x }]{aF len n:Nat}{f:Nat->Nat}{cs:Array Value}(hb:aA w aF cs 114){d d':Array { x:Nat // Rl w om s x }}{os:Array Obj}
 (hd:d.size=len) (hdf:∀j,j<len->(d[j]!).1=f j) (hH:Holds FV w aF 0 d) (hp:PermIn 0 d.size d d') (hs:SortedIn (ltOf cfL) 0 d.size d') :
 ∃ys:List Nat,ys.Perm (upto f len)/\ys.Pairwise (fun a b=>fP om b a=false)/\(∀j,j<len->(sortWorld FV w aF 0 n d' os).cell? ⟨aF,j,none⟩=some (vC (ys.getD j 0))):=by
 have hd':d'.size=len:=hp.1.trans hd;refine⟨d'.toList.map Subtype.val,?_,?_,?_⟩
 ·have h3:=hp.2.2;rw[hd,Array.extract_eq_self_of_le (by omega),Array.extract_eq_self_of_le (by omega)]at h3;have h4:=h3.map Subtype.val;have:d.toList.map Subtype.val=upto f len:=by
   apply List.ext_getElem
   ·simp[upto,hd]
   ·intro i h1 h2;have hi:i<len:=by simpa [upto] using h2
    have:=hdf i hi;rw[getElem!_pos d i (by omega)]at this;simp[upto,this]
  rw[<-this];exact h4
 ·rw[List.pairwise_map,List.pairwise_iff_getElem];intro i j hi hj hij;have hi':i<d'.size:=by simpa using hi
  have hj':j<d'.size:=by simpa using hj
  have:=hs i j (Nat.zero_le _) hij (by omega);rw[getElem!_pos d' i hi',getElem!_pos d' j hj',Gq]at this
  simpa using this
 ·intro j hj;have:=(holds_sortWorld FV w aF 0 n d d' os hb.lt hH hp.1 j (by omega)).1;rw[Nat.zero_add,getElem!_pos d' j (by omega)]at this;rw[this];have hj':j<d'.toList.length:=by simpa [hd'] using hj
  simp[FV,List.getD_eq_getElem?_getD,hj',hd',hj]
theorem Hl(aF cap len:Nat)(f:Nat->Nat)(om:Nat->Ord)(s:Int)(w:World)(h0:0<len)(hlen:len<=100000)(hl:∀j,j<len->Rl w om s (f j))(cs:Array Value)(hb:aA w aF cs 114)(hc:∀j,j<len->cs[j]?=some (vC (f j))) :
 CT 128 #[.slice (some ⟨aF,0,none⟩) len cap,.func (.func 83) #[] #[]] w fun e w'=>e=.returned (.tuple #[]) /\
  ∃ys:List Nat,ys.Perm (upto f len)/\ys.Pairwise (fun a b=>fP om b a=false)/\(∀j,j<len->w'.cell? ⟨aF,j,none⟩=some (vC (ys.getD j 0)))/\aj (fun x=>x=aF) w w':=by
 let inh:Inhabited { x:Nat // Rl w om s x }:=⟨⟨f 0,hl 0 h0⟩⟩;obtain⟨d,hd,hdf⟩:∃d:Array { x:Nat // Rl w om s x },d.size=len/\∀j,j<len->(d[j]!).1=f j:=by
  refine⟨Array.ofFn (n:=len) (fun j=>⟨f j,hl j j.2⟩),by simp,fun j hj=>?_⟩;rw[getElem!_pos _ j (by simpa using hj)];simp
 have hH:Holds FV w aF 0 d:=by
  intro j hj;rw[hd]at hj;rw[Nat.zero_add];refine⟨(hb.cell j).trans ((hc j hj).trans ?_),hb.frozen j⟩;unfold FV;rw[hdf j hj]
 have eg:∀args w,(callFunc 83 args).run Tryz.prog w=.ok (.enter 83 args) w:=enters_of Tryz.func83 (by kernel_rfl) rfl;have hcon:=Any.slices_SortFunc acm (@FV w om s) (fun _=>rfl) cfL (acr w om s) 83 #[] aF 0 cap d w eg (aa7 hb) hH hb.lt (by omega);change CT 128 _ _ _ at hcon;rw[hd]at hcon;refine hcon.mono ?_;rintro e w' ⟨rfl,d',n,os,hp,hs,rfl⟩;obtain⟨ys,h1,h2,h3⟩:=Vj (n:=n) (os:=os) hb hd hdf hH (by rw[hd];exact hp) (by rw[hd];exact hs);exact⟨rfl,ys,h1,h2,h3,vH _ _ _ _ _ _ _⟩
def LM(n₀:Nat)(w:World)(v:Value)(ys:List Nat):Prop :=
 (v=.slice none 0 0/\ys=[])\/∃b cap,v=.slice (some ⟨b,0,none⟩) ys.length cap/\n₀<=b/\ys.length<=cap/\∀j,j<ys.length->w.cell? ⟨b,j,none⟩=some (vC (ys.getD j 0))
def vX(len:Nat)(f:Nat->Nat)(om:Nat->Ord)(w:World)(v:Value)(w':World):Prop :=
 ∃ys:List Nat,ys.Perm (upto f len)/\ys.Pairwise (fun a b=>fP om b a=false)/\LM w.heap.size w' v ys/\Below w.heap.size w w'
theorem acn(len:Nat)(f:Nat->Nat)(om:Nat->Ord)(s:Int)(w W:World)(v:Value)(hlen:len<=100000)(hl:∀j,j<len->Rl w om s (f j))(hr:W.ownsRow w.heap.size 114 1 v len ((upto f len).map vC))(hn:v=.slice none 0 0↔upto f len=[])(hB:Below w.heap.size w W) :
 CT 128 #[v,.func (.func 83) #[] #[]] W fun e w'=>e=.returned (.tuple #[])/\vX len f om w v w':=by
 obtain⟨hr1,⟨rfl,rfl⟩ | ⟨g,cap,cur,rfl,hg,hb,hcap,hcm,hsz,htk⟩⟩:=hr
 ·refine (NR _ W).mono ?_;rintro e w' ⟨rfl,rfl⟩;exact⟨rfl,[],by simp[upto],List.Pairwise.nil,.inl ⟨rfl,rfl⟩,hB⟩
 ·have h0:0<len:=by
   rcases Nat.eq_zero_or_pos len with h | h
   ·subst h;have:=hn.2 (by simp[upto]);cases this
   ·exact h
  have hl':∀j,j<len->Rl W om s (f j):=fun j hj=>by
   obtain⟨⟨ix,ho⟩,hs⟩:=hl j hj;exact⟨⟨ix,(hB.block (f j) ho.lt).trans ho⟩,hs⟩
  have hc:∀j,j<len->cur[j]?=some (vC (f j)):=fun j hj=>by
   have h1:(cur.toList.take (len * 1))[j]?=((upto f len).map vC)[j]?:=by rw[htk]
   rw[List.getElem?_take,if_pos (by omega)]at h1;rw[<-Array.getElem?_toList,h1];simp[upto,hj]
  refine (Hl g cap len f om s W h0 hlen hl' cur hb hc).mono ?_;rintro e w' ⟨rfl,ys,h1,h2,h3,h4⟩;have hy:ys.length=len:=by rw[h1.length_eq,nD]
  refine⟨rfl,ys,h1,h2,.inr ⟨g,cap,by rw[hy],hg,by omega,fun j hj=>h3 j (by omega)⟩,?_⟩;exact hB.trans (h4.Ox hB.size (fun k e=>by omega))
theorem CQ(Bs:Nat)(a:Option Addr)(len cap:Nat)(f:Nat->Nat)(om:Nat->Ord)(s:Int)(hlen:len<=100000)(w:World)(hBs:Bs<w.heap.size)
 (hcB:w.cell? ⟨Bs,0,none⟩=some (.slice a len cap)) (hI:FH w.heap.size w a len cap f) (hl:∀j,j<len->Rl w om s (f j)) :
 CT 81 #[.func (.func 129) #[] #[PP Bs],.func (.func 83) #[] #[]] w fun e w'=>∃v,e=.returned v/\vX len f om w v w':=by
 have abo:=IP Bs a len cap f hlen w hBs hcB hI;have hsort:=fun (W:World) (v:Value) hr hn hB=>acn len f om s w W v hlen hl hr hn hB
 clear hcB hI hl;go_enter Tryz.func81,Tryz.ntmps81;go_wp2_with (first | (go_at_call 127;refine abo.mono ?_;clear abo;rintro e w1 ⟨v,rfl,hr,hn,hB⟩;have hs:=hsort w1 v hr hn hB;clear hsort hr hn hB) | (go_at_call 128;refine hs.mono ?_;clear hs;rintro e w2 ⟨rfl,hp⟩));go_ret;exact⟨v,rfl,hp⟩
structure kQ where
 af:Int
 aK:Int
 num:Int
def kQ.cells(l:kQ):List Value:=[II l.af,II l.aK,II l.num]
def lM(ls:List kQ):List Value:=ls.flatMap kQ.cells
theorem ug(ls:List kQ):(lM ls).length=3 * ls.length:=by
 induction ls with
 | nil=>rfl
 | cons l ls ih=>simp only[lM,List.flatMap_cons,List.length_append,List.length_cons]at *;simp only[kQ.cells,List.length_cons,List.length_nil];omega
theorem aau(ls:List kQ)(k c:Nat)(hk:k<ls.length)(hc:c<3):(lM ls)[3 * k+c]?=(ls[k].cells)[c]?:=by
 induction ls generalizing k with
 | nil=>exact absurd hk (by simp)
 | cons l ls ih =>
   have hl:(kQ.cells l).length=3:=rfl;cases k with
   | zero =>
     simp only[lM,List.flatMap_cons];rw[List.getElem?_append_left (by omega)];simp
   | succ k =>
     have:=ih k (by simpa using hk);simp only[lM,List.flatMap_cons]at *;rw[List.getElem?_append_right (by omega),hl,show 3 * (k+1)+c-3=3 * k+c from by omega,this];simp
def jH(ls:List kQ)(o:Ord):List kQ :=
 match ls.getLast? with
 | some l=>if l.af=o.af then ls.dropLast++[⟨l.af,wrap64 (l.aK+o.aO),wrap64 (l.num+1)⟩] else ls++[⟨o.af,wrap64 o.aO,1⟩]
 | none=>[⟨o.af,wrap64 o.aO,1⟩]
def jg(os:List Ord):List kQ:=os.foldl jH []
def oJ(n₀:Nat)(W:World)(v:Value)(ls:List kQ):Prop :=
 (v=.slice none 0 0/\ls=[])\/∃g cap cs,v=.slice (some ⟨g,0,none⟩) ls.length cap/\n₀<=g/\aA W g cs 93/\ls.length<=cap/\cap<=maxLen/\cs.size=cap * 3/\cs.toList.take (ls.length * 3)=lM ls/\0<ls.length
theorem oJ.owns{n₀:Nat}{W:World}{v:Value}{ls:List kQ}(h:oJ n₀ W v ls):W.ownsRow n₀ 93 3 v ls.length (lM ls):=by
 refine⟨by rw[ug];omega,?_⟩;rcases h with⟨rfl,rfl⟩ | ⟨g,cap,cs,rfl,h1,h2,h3,h4,h5,h6⟩
 ·exact .inl ⟨rfl,rfl⟩
 ·exact .inr ⟨g,cap,cs,rfl,h1,h2,h3,h4,h5,h6.1⟩
theorem Ua:(Tryz.prog.info? 93).map (fun i=>(i.zero,i.size,i.bytes))=some (some (.agg #[II 0,II 0,II 0]),3,24):=by kernel_rfl
def iG(om:Nat->Ord)(ys:List Nat):List Ord:=ys.map om
def um(l:List Ord)(o:iT):Nat->Int
 | 0=>0
 | i+1=>um l o i+(if lJ o (ax l i)=true/\(ax l i).aG≠o.aG then (ax l i).aO else 0)
def xU(l:List Ord)(id:Int):Int:=match iU l id with
 | none=>6
 | some k=>if (ax l k).aO=0 then 10 else 0
theorem xW{l:List Ord}{id:Int}{k:Nat}(h:iU l id=some k):k<l.length/\(ax l k).id=id:=by
 unfold iU at h;obtain⟨hk,h1,_⟩:=List.findIdx?_eq_some_iff_getElem.1 h;refine⟨hk,?_⟩;rw[O0 (List.getElem?_eq_getElem hk)]
 simpa using h1
open Go.RowKit Go.Maps
def Lg.mP(G:Lg)(k:Nat)(t:Tr):Lg:={ G with tr:=G.tr.set k ⟨t,false⟩ }
theorem fU.mP{w:World}{bv bm bo k b:Nat}{G:Lg}{m:Lm}{x:Tg}(h:bG w bv bm bo G m)(hx:G.tr[k]?=some x)(hb:m.tb[k]?=some b):bG (w.setCell ⟨b,7,none⟩ (.bool false)) bv bm bo (G.mP k x.t) m:=by
 have hblk:=h.aP.aF k b x hb hx;have kk:aj (fun y=>y=b) w (w.setCell ⟨b,7,none⟩ (.bool false)):=(aj.refl (fun y=>y=b) w).setCell (p:=⟨b,7,none⟩) (.inl rfl) _;refine⟨kk.aF h.dC (aA.ne h.dC hblk (by decide)),?_⟩;have ht:=aI h.aP.jJ kk (fun y hy e=>bY h.aP.jJ hy hblk (by decide) e);refine⟨?_,aI h.aP.iO kk (fun y hy e=>bY h.aP.iO hy hblk (by decide) e),by simp[Lg.mP,h.aP.len],fun i b' g hi hg=>?_,h.aP.nodup,h.aP.act.aC kk (fun y hy e=>?_),aI h.aP.kV kk (fun y hy e=>bY h.aP.kV hy hblk (by decide) e),h.aP.jb⟩
 ·simp only[Lg.mP,List.length_set];exact ht
 ·simp only[Lg.mP]at hg;by_cases e:i=k
  ·subst e;obtain rfl:b'=b:=by rw[hb]at hi;exact (Option.some.inj hi).symm
   have hlt:i<G.tr.length:=(List.getElem?_eq_some_iff.1 hx).1;rw[List.getElem?_set_self hlt]at hg;obtain rfl:=Option.some.inj hg;exact hblk.set 7 _
  ·rw[List.getElem?_set_ne (fun h=>e h.symm)]at hg;refine kk.aF (h.aP.aF i b' g hi hg) (fun e2=>e ?_);subst e2;obtain⟨h1,e1⟩:=List.getElem?_eq_some_iff.1 hi;obtain⟨h2,e2⟩:=List.getElem?_eq_some_iff.1 hb;rcases Nat.lt_trichotomy i k with hlt | hlt | hlt
   ·exact absurd (e1.trans e2.symm) (List.pairwise_iff_getElem.1 h.aP.nodup i k h1 h2 hlt)
   ·exact hlt
   ·exact absurd (e2.trans e1.symm) (List.pairwise_iff_getElem.1 h.aP.nodup k i h2 h1 hlt)
 ·obtain⟨c,t,hc,ht'⟩:=h.aP.act.gK hy;subst e;exact aA.ne hc hblk (by rcases ht' with rfl | rfl <;> decide) rfl
def Zp(G G':Lg)(n:Nat):Prop:=G'.tr=G.tr/\G'.tp=G.tp/\G'.day=G.day/\G'.na=G.na/\G'.nt.length<=G.nt.length+n/\G'.ud=G.ud/\G'.js=G.js
def Lg.iH(G:Lg)(k tb:Nat)(t:Tr):Lg:=((G.begun.mP k t).told 2 t).aX [.jU tb]
theorem acb(tmps:Array Value)(H:Nat)(w:World)(a b c d e E:Int)(ht:tmps.getD 4 undef=PP H)(hu:tmps.getD 5 undef=II E)(hb:aA w H #[II a,II b,II c,II d,II e] 87) :
 (results Tryz.f64 tmps).run Tryz.prog w=.ok (.tuple #[.agg #[II a,II b,II c,II d,II e],II E]) w:=by
 obtain⟨c0,c1,c2,c3,c4⟩:=hb.c5;simp only[Array.getD_eq_getD_getElem?]at ht hu;simp[results,Tryz.results64,go_sem,ht,hu,c0,c1,c2,c3,c4]
theorem P6(bv:Nat)(o:iT)(E:Int)(w:World)(hE:E≠0)(hrf:∀W,aj aJ w W->CT 111 #[PP bv,o.val] W fun e w'=>e=.returned (II E)/\aj aJ W w') :
 CT 64 #[PP bv,o.val] w fun e w'=>e=.returned (.tuple #[.agg #[II 0,II 0,II 0,II 0,II 0],II E])/\aj aJ w w':=by
 have e0:(E != 0)=true:=by simp[hE]
 obtain⟨w1,hw1⟩:=kL (((w.alloc (.cells #[PP bv] 35)).alloc (.cells (DW o) 52)).alloc (.cells lX 87));have k1:aj aJ w w1:=by rw[hw1];exact (((aj.refl aJ w).alloc _).alloc _).alloc _
 have hr1:aA w1 (w.heap.size+2) lX 87:=by rw[hw1];exact aA.UK w _ _ _ _
 have HX:=au (hrf w1 k1);have ls2:w.heap.size<w.heap.size+1+1:=by omega
 have HW1:Hid (w1=((w.alloc (.cells #[PP bv] 35)).alloc (.cells #[II o.id,II o.aG,.string o.sym,II o.side,II o.kind,II o.af,II o.aK] 52)).alloc (.cells #[II 0,II 0,II 0,II 0,II 0] 87)):=hw1;clear hrf hw1 hE;simp only[iT.val];go_enter Tryz.func64,Tryz.ntmps64;go_wp2_with fail;rw[<-ae HW1];refine (ae HX).mono ?_;rintro e w2 ⟨rfl,k2⟩;have hr2:=k2.aF hr1 aU;obtain⟨r0,r1,r2,r3,r4⟩:=hr2.c5;have q0:=hr2.frozen 0;have q1:=hr2.frozen 1;have q2:=hr2.frozen 2;have q3:=hr2.frozen 3;have q4:=hr2.frozen 4;have sz:=k1.size;go_wp2;refine bodyPost_ret (acb _ (w.heap.size+2) _ 0 0 0 0 0 E rfl rfl ?_) rfl ⟨rfl,?_⟩
 ·exact ((((hr2.set 0 _).set 1 _).set 2 _).set 3 _).set 4 _
 ·exact (((((k1.trans k2).setCell (p:=⟨w.heap.size+2,0,none⟩) (.inr (by simp)) _).setCell (p:=⟨w.heap.size+2,1,none⟩) (.inr (by simp)) _).setCell (p:=⟨w.heap.size+2,2,none⟩) (.inr (by simp)) _).setCell (p:=⟨w.heap.size+2,3,none⟩) (.inr (by simp)) _).setCell (p:=⟨w.heap.size+2,4,none⟩) (.inr (by simp)) _
open Go.RowKit Go.Shelf
attribute [local go_sem] Oper.semAt_some
theorem Iz(n:Nat)(a:Option Addr)(len cap:Nat)(w:World) :
 CallsIn Fence.wide n Tryz.prog 80 #[.slice a len cap] w fun e w'=>e=.returned (.func (.func 126) #[] #[PP w.heap.size])/\w'=w.alloc (.cells #[.slice a len cap] 109):=by
 refine callsIn_of_wp Tryz.func80 rfl trivial ?_ rfl;simp only[Tryz.ntmps80,List.size_toArray,List.length_cons,List.length_nil,Nat.reduceAdd,Nat.reduceSub,Array.replicate_succ,Array.replicate_zero,List.push_toArray,List.append_toArray,List.nil_append,List.cons_append]
 gi_wp2
 go_ret;exact⟨rfl,rfl⟩
theorem FM(n:Nat)(hn:1<=n)(l Bs ga len cap:Nat)(cl:Nat->Value)(hreach:len * 8<=140737488351232)(J:Nat->World->Prop)
 (hJ:∀k W,J k W->W.cell? ⟨Bs,0,none⟩=some (.slice (some ⟨ga,0,none⟩) len cap)/\∀j,j<len->W.cell? ⟨ga,j,none⟩=some (cl j))
 (hY:∀k j W,k+(j+1)=len->J k W->YieldAt Fence.wide (n-1) Tryz.prog l #[II (j:Int),cl j] W fun e W'=>e=.returned (.bool true)/\J (k+1) W')
 (W:World) (h0:J 0 W) :
 CallsIn Fence.wide n Tryz.prog 126 #[.func (.yield l) #[] #[],PP Bs] W fun e W'=>(∃v,e=.returned v)/\J len W':=by
 have hBs:=(hJ 0 W h0).1;refine callsIn_of_wp Tryz.func126 rfl trivial ?_ rfl;simp only[Tryz.ntmps126,List.size_toArray,List.length_cons,List.length_nil,Nat.reduceAdd,Nat.reduceSub,Array.replicate_succ,Array.replicate_zero,List.push_toArray,List.append_toArray,List.nil_append,List.cons_append]
 gi_wp2
 gi_loopw [3] (fun i wr=>∃k j:Nat,k+j=len/\i=II ((j:Int)-1)/\J k wr)
  (fun i _=>(intOf i+1).toNat)
 case atStart=>exact⟨0,len,by omega,by simp[wrap64],h0⟩
 case round =>
  obtain⟨k,j,hkj,rfl,hJs⟩:=hrel;rcases j with _ | j
  ·obtain rfl:k=len:=by omega
   rw[show (((0:Nat):Int)-1) = -1 by omega]
   gi_wp2
   go_end0;exact⟨⟨_,rfl⟩,hJs⟩
  ·rw[show (((j+1:Nat):Int)-1)=(j:Int) by omega];obtain⟨hb,hc⟩:=hJ k wr hJs;have hcj:=hc j (by omega);have hjl:j<len:=by omega
   have hge:decide ((0:Int)<=(j:Int))=true:=by simp
   obtain⟨fn,tmps,assign,body,hy,hR⟩:=hY k j wr hkj hJs
   gi_wp2
   refine hR.mono ?_;rintro e W3 ⟨rfl,hJ3⟩
   gi_wp2
   go_roundw
   case rel=>exact⟨k+1,j,by omega,by simp[wrap64],hJ3⟩
   case measure=>simp[intOf,wrap64]
def Zt(n₀ ga:Nat)(W:World)(x:Nat):Prop:=x≠ga/\(x<n₀\/∃c t,aA W x c t/\t≠109)
def RU(n₀:Nat)(W:World)(x:Nat):Prop:=n₀<=x/\∀c t,¬aA W x c t
theorem aj.putObj{S:Nat->Prop}{a w:World}(h:aj S a w){l:Nat}(hl:S l\/a.heap.size<=l)(o:Obj):aj S a (w.putObj l o) :=
 h.grown (grownBy_putObj' w l o) (fun k e=>by cases e;exact hl)
theorem Q7{g:Operand}{ps:Array Tmp}{assign body:Code}{Q:Exit->Act->World->Prop}{a:Act}{w:World}(n₀ Bs ga len cap:Nat)(cl:Nat->Value)(I:Nat->World->Prop)(hreach:len * 8<=140737488351232)
 (hg:a.eval g=.func (.func 126) #[] #[PP Bs]) (hps:ps.size=2)
 (hbox:aA w Bs #[.slice (some ⟨ga,0,none⟩) len cap] 109) (hB:n₀<=Bs) (hw:n₀<=w.heap.size)
 (hs:∀j,j<len->w.cell? ⟨ga,j,none⟩=some (cl j)) (hgl:ga<n₀)
 (OG:∀k W W',I k W->aj (RU n₀ W) W W'->I k W') (h0:I 0 w) (a₁:Nat->Act)
 (hassign:∀(l j:Nat) (W:World) (K:Act->World->Prop),K (a₁ j) W->assign.wpIn (Fence.wide.inRound l) 4 Tryz.prog (Exit.then K (fun _ _ _=>False)) { tmps:=(ps.zip #[II (j:Int),cl j]).foldl (fun t (p,v)=>t.setIfInBounds p v) a.tmps,defers:=[] } W)
 (hbody:∀(l k j:Nat) (W:World),k+(j+1)=len->I k W->n₀<=W.heap.size->body.wpIn (Fence.wide.inRound l) 4 Tryz.prog (fun e _ W'=>e=.normal/\I (k+1) W'/\aj (Zt n₀ ga W) W W') (a₁ j) W)
 (hdone:∀(D:Nat) (W:World),n₀<=D->I len W->W.heap[D]?=some (.deferred (some []))->Q .normal { a with defers:={ target:=.collected D,args:=#[] } :: a.defers } W) :
 (Code.rangeFunc g ps assign body).wpIn Fence.wide 6 Tryz.prog Q a w:=by
 refine wpIn_rangeFunc ?_;intro fn hfn;obtain⟨rc,hrc⟩:∃rc:LoopState->Loop,rc=fun st=>{ state:=st,pending:=none,fn,tmps:=a.tmps,params:=ps,assign,body,defers:=w.heap.size }:=⟨_,rfl⟩
 obtain⟨W1,hW1⟩:=kL ((w.alloc (.deferred (some []))).alloc (.loop (rc .ready)));have hL1:W1.heap[w.heap.size+1]?=some (.loop (rc .ready)):=by
  rw[hW1];have:=World.alloc_heap_new (w.alloc (.deferred (some []))) (.loop (rc .ready));rwa [World.size_alloc]at this
 have hD1:W1.heap[w.heap.size]?=some (.deferred (some [])):=by
  rw[hW1];exact (Below.heap_alloc _ _ _ (by simp)).trans (World.alloc_heap_new w _)
 have k1:aj aJ w W1:=by rw[hW1];exact ((aj.refl aJ w).alloc _).alloc _
 refine⟨w.heap.size+1,[{ target:=.collected w.heap.size,args:=#[] }],W1,{ target:=.fn (.func 126) #[PP Bs],args:=#[.func (.yield (w.heap.size+1)) #[] #[]] },W1,126,#[.func (.yield (w.heap.size+1)) #[] #[],PP Bs],W1,?_,?_,fun _ _=>trivial,?_,fun h=>by simp[Fence.wide]at h,?_⟩
 ·rw[hW1,hrc];exact run_enterLoop_outer _ _ _ _ _
 ·simp only[resolve,hg];simp[go_sem]
 ·have:=enters_of (P:=Tryz.prog) Tryz.func126 (by kernel_rfl) rfl;simp[invoke,go_sem,this _ _]
 have nT:∀W x o,n₀<=x->W.heap[x]?=some o->(∀c t,o=.cells c t->t=109)->¬Zt n₀ ga W x:=by
  rintro W x o hx ho hc ⟨_,h | ⟨c,t,h,ht⟩⟩
  ·omega
  ·unfold aA at h;rw[ho]at h;exact ht (hc c t (by simpa using h))
 refine (FM 5 (by omega) (w.heap.size+1) Bs ga len cap cl hreach (fun k W=>I k W/\aA W Bs #[.slice (some ⟨ga,0,none⟩) len cap] 109/\W.heap[ga]?=w.heap[ga]?/\W.heap[w.heap.size+1]?=some (.loop (rc .ready))/\W.heap[w.heap.size]?=some (.deferred (some []))) ?_ ?_ W1
  ⟨OG 0 w W1 h0 k1.bI,k1.aF hbox aU,k1.block ga (by omega) aU,hL1,hD1⟩).mono ?_
 ·rintro k W ⟨_,hb,hga,_,_⟩;exact⟨hb.cell 0,fun j hj=>(World.cell?_of_block (a:=⟨ga,j,none⟩) hga).trans (hs j hj)⟩
 ·rintro k j W hkj ⟨hi,hb,hga,hl,hd⟩;have hlt:w.heap.size+1<W.heap.size:=(Array.getElem?_eq_some_iff.1 hl).1;have hy:=run_yield (P:=Tryz.prog) (args:=#[II (j:Int),cl j]) hl (by rw[hrc];simp[hps]);rw[hrc]at hy;refine⟨fn,_,assign,body,hy,roundIn_of_wpIn hfn (hassign _ j W _ ⟨_,run_beginRound hl (by rw[hrc]),?_⟩)⟩;obtain⟨W2,hW2⟩:=kL (W.putObj (w.heap.size+1) (.loop { rc .ready with state:=.busy }));rw[<-hW2];have hl2:W2.heap[w.heap.size+1]?=some (.loop { rc .ready with state:=.busy }):=by rw[hW2];exact World.putObj_heap_same hlt
  have c2:aj (RU n₀ W) W W2:=by
   rw[hW2];exact (aj.refl _ W).putObj (.inl ⟨by omega,fun c t h=>by unfold aA at h;rw[hl]at h;cases h⟩) _
  have nR:∀x o,W.heap[x]?=some o->x≠w.heap.size+1->W2.heap[x]?=some o:=fun x o ho hx=>by rw[hW2];exact (World.putObj_heap_other hx).trans ho
  have hd2:=nR _ _ hd (by omega);have hb2:aA W2 Bs #[.slice (some ⟨ga,0,none⟩) len cap] 109:=c2.aF hb (fun h=>h.2 _ _ hb);have ac1:W2.heap[ga]?=w.heap[ga]?:=by rw[hW2];exact (World.putObj_heap_other (by omega)).trans hga
  have hs2:W.heap.size<=W2.heap.size:=c2.size;refine wpIn_mono (hbody _ k j W2 hkj (OG k W W2 hi c2) (by omega)) ?_;rintro e a3 W3 ⟨rfl,hi3,k3⟩;have hl3:=(k3.block _ (by omega) (nT W2 _ _ (by omega) hl2 (fun c t h=>by cases h))).trans hl2;have hd3:=(k3.block _ (by omega) (nT W2 _ _ hw hd2 (fun c t h=>by cases h))).trans hd2;have hb3:aA W3 Bs #[.slice (some ⟨ga,0,none⟩) len cap] 109:=k3.aF hb2 (nT W2 _ _ hB hb2 (fun c t h=>by simp at h;exact h.2.symm));have ac2:W3.heap[ga]?=w.heap[ga]?:=(k3.block ga (by omega) (fun h=>h.1 rfl)).trans ac1;have hlt3:w.heap.size+1<W3.heap.size:=(Array.getElem?_eq_some_iff.1 hl3).1;refine⟨_,_,run_endRound none hl3,rfl,?_⟩;have er:({ ({ rc .ready with state:=.busy }:Loop) with state:=if (none:Option Code).isNone then .ready else .done,pending:=none }:Loop)=rc .ready:=by rw[hrc];rfl
  rw[er];have c4:aj (RU n₀ W3) W3 (W3.putObj (w.heap.size+1) (.loop (rc .ready))) :=
   (aj.refl _ W3).putObj (.inl ⟨by omega,fun c t h=>by unfold aA at h;rw[hl3]at h;cases h⟩) _
  exact⟨OG _ _ _ hi3 c4,c4.aF hb3 (fun h=>h.2 _ _ hb3),(World.putObj_heap_other (by omega)).trans ac2,World.putObj_heap_same hlt3,(World.putObj_heap_other (by omega)).trans hd3⟩
 ·rintro e W2 ⟨⟨v,rfl⟩,hi,hb,hga,hl,hd⟩;have c4:=fun o=>(aj.refl (RU n₀ W2) W2).putObj (l:=w.heap.size+1) (.inl ⟨by omega,fun c t h=>by unfold aA at h;rw[hl]at h;cases h⟩) o
  refine⟨_,_,run_endLoop hl (by rw[hrc];simp),?_⟩;have ep:(rc .ready).pending=none:=by rw[hrc]
  rw[ep];exact hdone _ _ hw (OG _ _ _ hi (c4 _)) ((World.putObj_heap_other (by omega)).trans hd)
theorem JL(ga len cap:Nat)(cl:Nat->Nat × Array Value)(I:Nat->World->Prop)(w:World)(hreach:len * 8<=140737488351232)
 (hs:∀j,j<len->w.cell? ⟨ga,j,none⟩=some (.func (.func (cl j).1) #[] (cl j).2)) (hgl:ga<w.heap.size)
 (hen:∀j,j<len->Enters Tryz.prog (cl j).1)
 (hI:∀k j W,k+(j+1)=len->I k W->w.heap.size<=W.heap.size->Calls Tryz.prog (cl j).1 (cl j).2 W fun e W'=>e=.returned (.tuple #[])/\I (k+1) W'/\aj (Zt w.heap.size ga W) W W')
 (OG:∀k W W',I k W->aj (RU w.heap.size W) W W'->I k W') (h0:I 0 w) :
 CT 45 #[.slice (some ⟨ga,0,none⟩) len cap] w fun e w'=>e=.returned (.tuple #[])/\I len w':=by
 refine (callsIn_wide (n:=6)).1 ?_;refine callsIn_of_wp_marks Tryz.func45 rfl trivial ?_ rfl;simp only[Tryz.ntmps45,List.size_toArray,List.length_cons,List.length_nil,Nat.reduceAdd,Nat.reduceSub,Array.replicate_succ,Array.replicate_zero,List.push_toArray,List.append_toArray,List.nil_append,List.cons_append]
 gi_wp2
 refine⟨trivial,(Iz _ _ _ _ _).mono ?_⟩;rintro e w1 ⟨rfl,rfl⟩
 gi_wp2
 have k1:aj aJ w (w.alloc (.cells #[.slice (some ⟨ga,0,none⟩) len cap] 109)):=(aj.refl aJ w).alloc _;refine Q7 w.heap.size w.heap.size ga len cap (fun j=>.func (.func (cl j).1) #[] (cl j).2) I hreach rfl rfl (aA.new w _ _) (Nat.le_refl _) k1.size (fun j hj=>k1.cell (hs j hj) aU) hgl OG (OG 0 _ _ h0 k1.bI)
  (fun j=>{ tmps:=#[.slice (some ⟨ga,0,none⟩) len cap,undef,undef,.func (.func (cl j).1) #[] (cl j).2,.slice (some ⟨ga,0,none⟩) len cap,.func (.func 126) #[] #[PP w.heap.size],II (j:Int),.func (.func (cl j).1) #[] (cl j).2,undef,undef],defers:=[] }) ?assign ?body ?done
 case assign =>
  intro l j W K hK
  gi_wp2
  exact hK
 case body =>
  intro l k j W hkj hi hW;have he:=hen j (by omega);have hC:=hI k j W hkj hi hW
  gi_wp2
  refine⟨trivial,?_⟩;rw[he _ _,Oper.uponIn_enter];refine⟨fun h=>by simp[Fence.wide,Fence.inRound]at h,?_⟩;refine CallsIn.mono (show CallsIn (Fence.wide.inRound l) 3 _ _ _ _ _ from (callsIn_wide (n:=3)).2 hC) ?_;rintro e W3 ⟨rfl,hi3,k3⟩
  gi_wp2
  all_goals first | exact hi3 | exact k3 | exact⟨hi3,k3⟩ | exact⟨rfl,hi3,k3⟩
 case done =>
  intro D W hD hi hK;refine⟨by simp,.inl ⟨_,_,rfl,run_takeDeferred hK,?_⟩⟩;exact⟨_,results_none rfl _ _ _,rfl,OG _ _ _ hi ((aj.refl _ W).putObj (.inl ⟨hD,fun c t h=>by unfold aA at h;rw[hK]at h;cases h⟩) _)⟩
def nV(ls:List (List UInt8)):List UInt8:=ls.flatMap (fun l=>l++[10])
theorem ui(l:List UInt8)(ls:List (List UInt8)):nV (l :: ls)=(l++[10])++nV ls:=by simp[nV]
theorem Jv(n:Nat)(s:ByteArray)(w:World) :
 CallsIn Fence.wide n Tryz.prog 56 #[.string s] w fun e w'=>e=.returned (.func (.func 87) #[] #[PP w.heap.size])/\w'=w.alloc (.cells #[.string s] 9):=by
 refine callsIn_of_wp Tryz.func56 rfl trivial ?_ rfl;simp only[Tryz.ntmps56,List.size_toArray,List.length_cons,List.length_nil,Nat.reduceAdd,Nat.reduceSub,Array.replicate_succ,Array.replicate_zero,List.push_toArray,List.append_toArray,List.nil_append,List.cons_append]
 gi_wp2
 go_ret;exact⟨rfl,rfl⟩
theorem Hu{a:ByteArray}{l:List UInt8}(h:a.data.toList=l):a=fQ l:=by
 obtain⟨⟨a⟩⟩:=a;simp at h;subst h
 rfl
theorem FX(l r:List UInt8):(fQ (l++[10]++r)).extract 0 (l.length+1)=fQ (l++[10]):=by
 apply Hu;rw[Lib.extract_from_zero,iQ,List.take_append_of_le_length (by simp),List.take_of_length_le (by simp)]
theorem FY(l r:List UInt8):(fQ (l++[10]++r)).extract (l.length+1) (fQ (l++[10]++r)).size=fQ r:=by
 apply Hu;rw[Lib.extract_to_end,iQ,List.drop_append_of_le_length (by simp),List.drop_eq_nil_of_le (by simp)]
 rfl
theorem aak{l:List UInt8}(h:(10:UInt8)∉l)(r:List UInt8):Lib.indexByte (fQ (l++[10]++r)).data.toList 10=(l.length:Int):=by
 rw[iQ,List.append_assoc];exact Gg 10 l r h
def Uu(b:Nat)(W:World):Nat:=match W.cell? ⟨b,0,none⟩ with
 | some (.string s)=>s.size
 | _=>0
theorem Jt{b:Nat}{W:World}{s:ByteArray}(h:W.cell? ⟨b,0,none⟩=some (.string s)):Uu b W=s.size:=by unfold Uu;rw[h]
theorem Qw(n:Nat)(hn:1<=n)(l Bs:Nat)(ls:List (List UInt8))(h10:∀x∈ls,(10:UInt8)∉x)(hxl:∀x∈ls,x.length<=100000)(J:Nat->World->Prop)(J':World->Prop)
 (hJ:∀k W,J k W->W.cell? ⟨Bs,0,none⟩=some (.string (fQ (nV (ls.drop k))))/\W.frozen? ⟨Bs,0,none⟩=false)
 (hY:∀k x W,ls[k]?=some x->J k W->YieldAt Fence.wide (n-1) Tryz.prog l #[.string (fQ (x++[10]))] (W.setCell ⟨Bs,0,none⟩ (.string (fQ (nV (ls.drop (k+1)))))).drew fun e W'=>(e=.returned (.bool true)/\J (k+1) W')\/(e=.returned (.bool false)/\J' W'))
 (W:World) (h0:J 0 W) :
 CallsIn Fence.wide n Tryz.prog 87 #[.func (.yield l) #[] #[],PP Bs] W fun e W'=>(∃v,e=.returned v)/\(J ls.length W'\/J' W'):=by
 refine callsIn_of_wp Tryz.func87 rfl trivial ?_ rfl;simp only[Tryz.ntmps87,List.size_toArray,List.length_cons,List.length_nil,Nat.reduceAdd,Nat.reduceSub,Array.replicate_succ,Array.replicate_zero,List.push_toArray,List.append_toArray,List.nil_append,List.cons_append]
 gi_wp2
 gi_loopw [3,4] (fun _ _ wr=>∃k:Nat,k<=ls.length/\J k wr) (fun _ _ wr=>Uu Bs wr)
 case atStart=>exact⟨0,Nat.zero_le _,h0⟩
 case round =>
  obtain⟨k,hk,hJk⟩:=hrel;obtain⟨hb,hf⟩:=hJ k wr hJk;by_cases hlt:k<ls.length
  ·obtain⟨x,hx⟩:∃x,ls[k]?=some x:=⟨_,List.getElem?_eq_getElem hlt⟩;have ed:ls.drop k=x :: ls.drop (k+1):=by
    rw[List.drop_eq_getElem_cons hlt,(List.getElem?_eq_some_iff.1 hx).2]
   have hxm:x∈ls:=List.mem_of_getElem? hx;rw[ed,ui]at hb;obtain⟨r,hr⟩:=mf (nV (ls.drop (k+1)));have hY1:=hY k x wr hx hJk;rw[hr]at hb hY1;have hix:=NQ (fQ (x++[10]++r)) 10;rw[show ((10:Int).toNat.toUInt8)=10 from rfl,aak (h10 x hxm) r]at hix;obtain⟨t,ht⟩:=mf (fQ (x++[10]++r));have hts:t.size=x.length+1+r.length:=by rw[<-ht,iR];simp only[List.length_append,List.length_cons,List.length_nil]
   have hxs:x.length+1<=t.size:=by omega
   have hgt:decide ((0:Int)<(t.size:Int))=true:=by simp;omega
   have eh:=FX x r;have et:=FY x r;rw[ht]at hb hix eh et;have hxb:=hxl x hxm;have hw:wrap64 ((x.length:Int)+1)=(x.length:Int)+1:=by unfold wrap64;omega
   obtain⟨HTs,HE,HY,HJ,HR⟩:=BD hts (And.intro eh et) hY1 hJ hr;clear hts eh et hY1 hY hJ hr
   gi_wp2
   refine⟨trivial,CallsIn.mono ((callsIn_wide (n:=n-1)).2 (hix wr)) ?_⟩;rintro e w1 ⟨rfl,rfl⟩
   gi_wp2
   gi_region
   rw[(ae HE).1,(ae HE).2];obtain⟨fn,tmps,assign,body,hy,hR⟩:=ae HY
   gi_wp2
   refine hR.mono ?_;rintro e W3 (⟨rfl,hJ3⟩ | ⟨rfl,hJ3⟩)
   ·have H3:=au hJ3;clear hJ3
    gi_wp2
    go_roundw
    case rel=>exact⟨k+1,by omega,ae H3⟩
    case measure =>
     have e1:=Jt hb;have e2:=Jt (ae HJ _ _ (ae H3)).1;rw[ae HR,iR]at e2;have:=ae HTs;omega
   ·have H3:=au hJ3;clear hJ3
    gi_wp2
    refine bodyPost_ret (results_none rfl _ _ _) rfl ?_;exact⟨⟨_,rfl⟩,.inr (ae H3)⟩
  ·obtain rfl:k=ls.length:=by omega
   rw[List.drop_eq_nil_of_le (Nat.le_refl _)]at hb;rw[show fQ (nV [])=⟨#[]⟩ from rfl]at hb
   gi_wp2
   go_end0;exact⟨⟨_,rfl⟩,.inl hJk⟩
def Ot(n₀ Bs:Nat)(W:World)(x:Nat):Prop:=x≠Bs/\(x<n₀\/∃c t,aA W x c t)
def wZ(n₀ Bs:Nat)(W:World)(x:Nat):Prop:=x=Bs\/(n₀<=x/\∀c t,¬aA W x c t)
theorem DL{g:Operand}{ps:Array Tmp}{assign body:Code}{Q:Exit->Act->World->Prop}{a:Act}{w:World}(n₀ Bs:Nat)(ls:List (List UInt8))(h10:∀x∈ls,(10:UInt8)∉x)(hxl:∀x∈ls,x.length<=100000)(I:Nat->World->Prop)(Ix:World->Prop)
 (hg:a.eval g=.func (.func 87) #[] #[PP Bs]) (hps:ps.size=1)
 (hbox:aA w Bs #[.string (fQ (nV ls))] 9) (hB:n₀<=Bs) (hw:n₀<=w.heap.size)
 (OG:∀k W W',I k W->aj (wZ n₀ Bs W) W W'->I k W') (abe:∀W W',Ix W->aj (wZ n₀ Bs W) W W'->Ix W') (h0:I 0 w) (a₁:List UInt8->Act)
 (hassign:∀(l:Nat) (x:List UInt8) (W:World) (K:Act->World->Prop),K (a₁ x) W->assign.wpIn (Fence.wide.inRound l) 4 Tryz.prog (Exit.then K (fun _ _ _=>False)) { tmps:=(ps.zip #[.string (fQ (x++[10]))]).foldl (fun t (p,v)=>t.setIfInBounds p v) a.tmps,defers:=[] } W)
 (hbody:∀(l k:Nat) (x:List UInt8) (W:World),ls[k]?=some x->I k W->n₀<=W.heap.size->body.wpIn (Fence.wide.inRound l) 4 Tryz.prog (fun e _ W'=>((e=.normal/\I (k+1) W')\/(e=.ret/\Ix W'))/\aj (Ot n₀ Bs W) W W') (a₁ x) W)
 (hdone:∀(D:Nat) (W:World),n₀<=D->I ls.length W->W.heap[D]?=some (.deferred (some []))->Q .normal { a with defers:={ target:=.collected D,args:=#[] } :: a.defers } W)
 (hstop:∀(D:Nat) (W:World),n₀<=D->Ix W->W.heap[D]?=some (.deferred (some []))->Code.wpIn Fence.wide 6 Tryz.prog .ret Q { a with defers:={ target:=.collected D,args:=#[] } :: a.defers } W) :
 (Code.rangeFunc g ps assign body).wpIn Fence.wide 6 Tryz.prog Q a w:=by
 refine wpIn_rangeFunc ?_;intro fn hfn;obtain⟨rc,hrc⟩:∃rc:LoopState->Option Code->Loop,rc=fun st pd=>{ state:=st,pending:=pd,fn,tmps:=a.tmps,params:=ps,assign,body,defers:=w.heap.size }:=⟨_,rfl⟩
 obtain⟨W1,hW1⟩:=kL ((w.alloc (.deferred (some []))).alloc (.loop (rc .ready none)));have hL1:W1.heap[w.heap.size+1]?=some (.loop (rc .ready none)):=by
  rw[hW1];have:=World.alloc_heap_new (w.alloc (.deferred (some []))) (.loop (rc .ready none));rwa [World.size_alloc]at this
 have hD1:W1.heap[w.heap.size]?=some (.deferred (some [])):=by
  rw[hW1];exact (Below.heap_alloc _ _ _ (by simp)).trans (World.alloc_heap_new w _)
 have k1:aj aJ w W1:=by rw[hW1];exact ((aj.refl aJ w).alloc _).alloc _
 refine⟨w.heap.size+1,[{ target:=.collected w.heap.size,args:=#[] }],W1,{ target:=.fn (.func 87) #[PP Bs],args:=#[.func (.yield (w.heap.size+1)) #[] #[]] },W1,87,#[.func (.yield (w.heap.size+1)) #[] #[],PP Bs],W1,?_,?_,fun _ _=>trivial,?_,fun h=>by simp[Fence.wide]at h,?_⟩
 ·rw[hW1,hrc];exact run_enterLoop_outer _ _ _ _ _
 ·simp only[resolve,hg];simp[go_sem]
 ·have:=enters_of (P:=Tryz.prog) Tryz.func87 (by kernel_rfl) rfl;simp[invoke,go_sem,this _ _]
 have nT:∀W x o,n₀<=x->W.heap[x]?=some o->(∀c t,o≠.cells c t)->¬Ot n₀ Bs W x:=by
  rintro W x o hx ho hc ⟨_,h | ⟨c,t,h⟩⟩
  ·omega
  ·unfold aA at h;rw[ho]at h;exact hc c t (by simpa using h)
 have hBl:Bs<w.heap.size:=hbox.lt;refine (Qw 5 (by omega) (w.heap.size+1) Bs ls h10 hxl (fun k W=>I k W/\aA W Bs #[.string (fQ (nV (ls.drop k)))] 9/\W.heap[w.heap.size+1]?=some (.loop (rc .ready none))/\W.heap[w.heap.size]?=some (.deferred (some []))) (fun W=>Ix W/\W.heap[w.heap.size+1]?=some (.loop (rc .done (some .ret)))/\W.heap[w.heap.size]?=some (.deferred (some []))) ?_ ?_ W1
  ⟨OG 0 w W1 h0 k1.bI,by rw[List.drop_zero];exact k1.aF hbox aU,hL1,hD1⟩).mono ?_
 ·rintro k W ⟨_,hb,_,_⟩;exact⟨hb.cell 0,hb.frozen 0⟩
 ·rintro k x W0 hx ⟨hi0,hb0,hl0,hd0⟩;obtain⟨W,hW⟩:=kL ((W0.setCell ⟨Bs,0,none⟩ (.string (fQ (nV (ls.drop (k+1)))))).drew);rw[<-hW];have c0:aj (fun b=>b=Bs) W0 W:=by rw[hW];exact ((aj.refl (fun b=>b=Bs) W0).setCell (p:=⟨Bs,0,none⟩) (.inl rfl) _).drew
  have hi:I k W:=OG k W0 W hi0 (c0.mono (fun b e=>.inl e));have hb:aA W Bs #[.string (fQ (nV (ls.drop (k+1))))] 9:=by rw[hW];exact (hb0.set 0 _).drew
  have hl:W.heap[w.heap.size+1]?=some (.loop (rc .ready none)):=(c0.block _ (Array.getElem?_eq_some_iff.1 hl0).1 (fun e=>by omega)).trans hl0;have hd:W.heap[w.heap.size]?=some (.deferred (some [])):=(c0.block _ (Array.getElem?_eq_some_iff.1 hd0).1 (fun e=>by omega)).trans hd0;have hlt:w.heap.size+1<W.heap.size:=(Array.getElem?_eq_some_iff.1 hl).1;have hy:=run_yield (P:=Tryz.prog) (args:=#[.string (fQ (x++[10]))]) hl (by rw[hrc];simp[hps]);rw[hrc]at hy;refine⟨fn,_,assign,body,hy,roundIn_of_wpIn hfn (hassign _ x W _ ⟨_,run_beginRound hl (by rw[hrc]),?_⟩)⟩;obtain⟨W2,hW2⟩:=kL (W.putObj (w.heap.size+1) (.loop { rc .ready none with state:=.busy }));rw[<-hW2];have hl2:W2.heap[w.heap.size+1]?=some (.loop { rc .ready none with state:=.busy }):=by rw[hW2];exact World.putObj_heap_same hlt
  have c2:aj (wZ n₀ Bs W) W W2:=by
   rw[hW2];exact (aj.refl _ W).putObj (.inl (.inr ⟨by omega,fun c t h=>by unfold aA at h;rw[hl]at h;cases h⟩)) _
  have nR:∀x o,W.heap[x]?=some o->x≠w.heap.size+1->W2.heap[x]?=some o:=fun x o ho hx=>by rw[hW2];exact (World.putObj_heap_other hx).trans ho
  have hd2:=nR _ _ hd (by omega);have hb2:aA W2 Bs #[.string (fQ (nV (ls.drop (k+1))))] 9:=nR _ _ hb (by omega);have hs2:W.heap.size<=W2.heap.size:=c2.size;refine wpIn_mono (hbody _ k x W2 hx (OG k W W2 hi c2) (by omega)) ?_;rintro e a3 W3 ⟨he,k3⟩;have hl3:=(k3.block _ (by omega) (nT W2 _ _ (by omega) hl2 (fun c t h=>by cases h))).trans hl2;have hd3:=(k3.block _ (by omega) (nT W2 _ _ hw hd2 (fun c t h=>by cases h))).trans hd2;have hb3:aA W3 Bs #[.string (fQ (nV (ls.drop (k+1))))] 9:=k3.aF hb2 (fun h=>h.1 rfl);have hlt3:w.heap.size+1<W3.heap.size:=(Array.getElem?_eq_some_iff.1 hl3).1;have c4:∀o,aj (wZ n₀ Bs W3) W3 (W3.putObj (w.heap.size+1) o):=fun o =>
   (aj.refl _ W3).putObj (.inl (.inr ⟨by omega,fun c t h=>by unfold aA at h;rw[hl3]at h;cases h⟩)) _
  rcases he with⟨rfl,hi3⟩ | ⟨rfl,hi3⟩
  ·refine⟨_,_,run_endRound none hl3,.inl ⟨rfl,?_⟩⟩;have er:({ ({ rc .ready none with state:=.busy }:Loop) with state:=if (none:Option Code).isNone then .ready else .done,pending:=none }:Loop)=rc .ready none:=by rw[hrc];rfl
   rw[er];exact⟨OG _ _ _ hi3 (c4 _),(World.putObj_heap_other (by omega)).trans hb3,World.putObj_heap_same hlt3,(World.putObj_heap_other (by omega)).trans hd3⟩
  ·refine⟨_,_,run_endRound (some .ret) hl3,.inr ⟨rfl,?_⟩⟩;have er:({ ({ rc .ready none with state:=.busy }:Loop) with state:=if (some Code.ret).isNone then .ready else .done,pending:=some .ret }:Loop)=rc .done (some .ret):=by rw[hrc];rfl
   rw[er];exact⟨abe _ _ hi3 (c4 _),World.putObj_heap_same hlt3,(World.putObj_heap_other (by omega)).trans hd3⟩
 ·rintro e W2 ⟨⟨v,rfl⟩,hx⟩;rcases hx with⟨hi,hb,hl,hd⟩ | ⟨hi,hl,hd⟩
  ·have c4:=fun o=>(aj.refl (wZ n₀ Bs W2) W2).putObj (l:=w.heap.size+1) (.inl (.inr ⟨by omega,fun c t h=>by unfold aA at h;rw[hl]at h;cases h⟩)) o
   refine⟨_,_,run_endLoop hl (by rw[hrc];simp),?_⟩;have ep:(rc .ready none).pending=none:=by rw[hrc]
   rw[ep];exact hdone _ _ hw (OG _ _ _ hi (c4 _)) ((World.putObj_heap_other (by omega)).trans hd)
  ·have c4:=fun o=>(aj.refl (wZ n₀ Bs W2) W2).putObj (l:=w.heap.size+1) (.inl (.inr ⟨by omega,fun c t h=>by unfold aA at h;rw[hl]at h;cases h⟩)) o
   refine⟨_,_,run_endLoop hl (by rw[hrc];simp),?_⟩;have ep:(rc .done (some .ret)).pending=some .ret:=by rw[hrc]
   rw[ep];exact hstop _ _ hw (abe _ _ hi (c4 _)) ((World.putObj_heap_other (by omega)).trans hd)
theorem Jp(p cut:List UInt8)(h:(10:UInt8)∉cut):Lib.lastIndexByte (fQ (p++[10]++cut)) 10=(p.length:Int):=by
 have hd:∀j,j<(p++[10]++cut).length->(fQ (p++[10]++cut)).data[j]! = (p++[10]++cut)[j]!:=fun j hj=>by
  show (p++[10]++cut).toArray[j]! = _;simp
 have hat:((fQ (p++[10]++cut)).data[p.length]!).toNat=10:=by
  rw[hd _ (by simp)];simp
 rcases Lib.lastIndexByte_spec (fQ (p++[10]++cut)) 10 with⟨_,hn⟩ | ⟨i,hi,he,hc,hb⟩
 ·exact absurd (by rw[hat];rfl) (hn p.length (by rw[iR];simp))
 ·rw[he];rw[iR]at hi hb;rcases Nat.lt_trichotomy i p.length with hlt | heq | hgt
  ·exact absurd (by rw[hat];rfl) (hb p.length hlt (by simp))
  ·rw[heq]
  ·exfalso;rw[hd i hi]at hc;have hm:(p++[10]++cut)[i]!∈cut:=by
    rw[List.getElem!_eq_getElem?_getD,List.getElem?_append_right (by simp;omega)];have hl:i-(p++[10]).length<cut.length:=by simp at hi ⊢;omega
    rw[List.getElem?_eq_getElem hl];exact List.getElem_mem hl
   refine h ?_;have e10:(p++[10]++cut)[i]! = 10:=UInt8.toNat.inj (by have:((((p++[10]++cut)[i]!).toNat:Nat):Int)=10:=hc;show _=10;omega);rw[<-e10];exact hm
theorem BF:∀(ls:List (List UInt8)),ls≠[]->∃p,nV ls=p++[10]
 | [],h=>absurd rfl h
 | [l],_=>⟨l,by simp[nV]⟩
 | l :: m :: ls,_=>by
   obtain⟨p,hp⟩:=BF (m :: ls) (by simp);exact⟨(l++[10])++p,by rw[ui,hp];simp⟩
theorem vJ(t cut:List UInt8):(fQ (t++cut)).extract 0 t.length=fQ t:=by
 apply Hu;rw[Lib.extract_from_zero,iQ,List.take_append_of_le_length (Nat.le_refl _),List.take_of_length_le (Nat.le_refl _)]
end Go.Proofs.YtigaphnafnpfnaaGreatDoor
