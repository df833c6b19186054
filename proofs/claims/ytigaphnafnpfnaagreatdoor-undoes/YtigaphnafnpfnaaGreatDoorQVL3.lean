import Derived.Test.YtigaphnafnpfnaaGreatDoorQVL2
import Derived.Test.YtigaphnafnpfnaaGreatDoorQVX1
set_option linter.unusedVariables false
set_option linter.unusedSimpArgs false
namespace Go.Proofs.YtigaphnafnpfnaaGreatDoor
open Go.RowKit
attribute [local go_sem ↓] Go.wp_at_zero Go.wp_at_succ
def Lg.jo(G:Lg)(t:Tr):Tr:={ t with num:=(G.tr.length:Int)+1,day:=G.day }
def Lg.aC(G:Lg)(t:Tr):Lg:={ G with tr:=G.tr++[⟨G.jo t,true⟩] }
def Lg.lC(G:Lg)(t:Tr):Lg:=((G.aC t).told 1 (G.jo t)).aY [.jh (G.jo t)]
theorem wM:∃i,Tryz.prog.info? 103=some i/\i.zero=some (.pointer none)/\i.size=1/\i.bytes=8:=by
 have h:=XI;cases hi:Tryz.prog.info? 103 with
 | none=>rw[hi]at h;simp at h
 | some i=>rw[hi]at h;simp at h;exact⟨i,rfl,h.1,h.2.1,h.2.2⟩
theorem fP.Ji{j w2:World}{bv u v:Nat}{G:Lg}{m:Lm}(h:bz j bv u v G m){n H g cap nb:Nat}{x:Tg}(D:G.tr.length=n)(z:au j nb x.cells 105)(E:¬nb∈m.tb)(hown:w2.ownsRow 0 103 1 (.slice (some ⟨g,0,none⟩) (n+1) cap) (n+1) (m.tb.map dh++[dh nb]))(y:j.grownBy w2 m.tv.ownBlock)(C:m.tv.ownBlock=some g\/g=H)(hH:j.heap.size=H) :
 bz (w2.setCell ⟨bv,2,none⟩ (.slice (some ⟨g,0,none⟩) (n+1) cap)) bv u v { G with tr:=G.tr++[x] } { m with tv:=.slice (some ⟨g,0,none⟩) (n+1) cap,tb:=m.tb++[nb] } /\
  (∀b,Lm.F { m with tv:=.slice (some ⟨g,0,none⟩) (n+1) cap,tb:=m.tb++[nb] } b->m.F b\/b=nb\/H<=b)/\aj (fun b=>b=bv\/m.tv.ownBlock=some b) j (w2.setCell ⟨bv,2,none⟩ (.slice (some ⟨g,0,none⟩) (n+1) cap)):=by
 have w:au w2 bv (rZ u v m G.day) 100:=(y.block bv h.cO.lt (fun e=>h.JH (.inl e.symm))).trans h.cO;have q:aj (fun b=>b=bv\/m.tv.ownBlock=some b) j (w2.setCell ⟨bv,2,none⟩ (.slice (some ⟨g,0,none⟩) (n+1) cap)) :=
  ((aj.refl _ j).grown y (fun k e=>.inl (.inr e))).setCell (p:=⟨bv,2,none⟩) (.inl (.inl rfl)) _
 have I:aj (fun b=>b=bv) w2 (w2.setCell ⟨bv,2,none⟩ (.slice (some ⟨g,0,none⟩) (n+1) cap)):=(aj.refl (fun b=>b=bv) w2).setCell (p:=⟨bv,2,none⟩) (.inl rfl) _;have FZ:∀{b c},au j b c 105->¬(b=bv\/m.tv.ownBlock=some b):=by
  rintro b c r (e | e)
  ·exact au.ne r h.cO (by decide) e
  ·exact dC h.aO.dJ e r (by decide) rfl
 refine⟨⟨w.set 2 _,?_⟩,?_,q⟩
 ·refine⟨?_,aB h.aO.fQ q ?_,by simp[h.aO.len],fun i b g f l=>?_,?_,h.aO.act.aC q ?_,aB h.aO.lT q ?_,h.aO.jb⟩
  ·simp only[List.length_append,List.length_cons,List.length_nil,D,List.map_append,List.map_cons,List.map_nil];exact aB hown I (fun b d e=>dC hown d w (by decide) e)
  ·rintro b d (e | e)
   ·exact dC h.aO.fQ d h.cO (by decide) e
   ·obtain⟨cs,o⟩:=aF h.aO.dJ e;exact dC h.aO.fQ d o (by decide) rfl
  ·simp only at f l;by_cases e:i<m.tb.length
   ·rw[List.getElem?_append_left e]at f;rw[List.getElem?_append_left (by rw[<-h.aO.len];exact e)]at l;have r:=h.aO.ay i b g f l;exact q.ay r (FZ r)
   ·rw[List.getElem?_append_right (by omega)]at f;rw[List.getElem?_append_right (by rw[<-h.aO.len];omega),<-h.aO.len]at l;have s:i-m.tb.length=0:=by
     rcases Nat.eq_zero_or_pos (i-m.tb.length) with s | s
     ·exact s
     ·rw[List.getElem?_eq_none (by simp;omega)]at f;simp at f
    rw[s]at f l;simp at f l;subst f;subst l;exact q.ay z (FZ z)
  ·exact List.nodup_append.2 ⟨h.aO.nodup,by simp,by rintro a B b d rfl;simp at d;subst d;exact E B⟩
  ·intro b d;obtain⟨cs,t,o,A⟩:=h.aO.act.gZ d;rintro (e | e)
   ·exact au.ne o h.cO (by rcases A with rfl | rfl <;> decide) e
   ·exact dC h.aO.dJ e o (by rcases A with rfl | rfl <;> decide) rfl
  ·rintro b d (e | e)
   ·exact dC h.aO.lT d h.cO (by decide) e
   ·obtain⟨cs,o⟩:=aF h.aO.dJ e;exact dC h.aO.lT d o (by decide) rfl
 ·rintro b (d | d | d | d)
  ·simp only[Value.ownBlock,Option.some.injEq]at d;rcases C with e | e
   ·exact .inl (.inl (by rw[e,d]))
   ·right;right;omega
  ·exact .inl (.inr (.inl d))
  ·simp only[List.mem_append,List.mem_singleton]at d;rcases d with d | d
   ·exact .inl (jL d)
   ·exact .inr (.inl d)
  ·exact .inl (BA d)
end Go.Proofs.YtigaphnafnpfnaaGreatDoor
