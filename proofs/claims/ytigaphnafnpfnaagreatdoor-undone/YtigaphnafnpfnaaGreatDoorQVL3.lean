import Derived.Test.YtigaphnafnpfnaaGreatDoorQVL2
import Derived.Test.YtigaphnafnpfnaaGreatDoorQVJ1
set_option linter.unusedVariables false
set_option linter.unusedSimpArgs false
namespace Go.Proofs.YtigaphnafnpfnaaGreatDoor
open Go.RowKit
attribute [local go_sem ↓] Go.wp_at_zero Go.wp_at_succ
def Lg.iC(G:Lg)(t:Tr):Tr:={ t with num:=(G.tr.length:Int)+1,day:=G.day }
def Lg.aC(G:Lg)(t:Tr):Lg:={ G with tr:=G.tr++[⟨G.iC t,true⟩] }
def Lg.jG(G:Lg)(t:Tr):Lg:=((G.aC t).told 1 (G.iC t)).aV [.iH (G.iC t)]
theorem vG:∃i,Tryz.prog.info? 103=some i/\i.zero=some (.pointer none)/\i.size=1/\i.bytes=8:=by
 have h:=XB
 cases hi:Tryz.prog.info? 103 with
 | none=>rw[hi]at h;simp at h
 | some i=>rw[hi]at h;simp at h;exact⟨i,rfl,h.1,h.2.1,h.2.2⟩
theorem fP.Iu{w1 w2:World}{bv bm bo:Nat}{G:Lg}{m:Lm}(h:bu w1 bv bm bo G m){n H g cap nb:Nat}{x:Tg}(hn:G.tr.length=n)(hnb:az w1 nb x.cells 105)(hnew:¬nb∈m.tb)(hown:w2.ownsRow 0 103 1 (.slice (some ⟨g,0,none⟩) (n+1) cap) (n+1) (m.tb.map dn++[dn nb]))(hgrow:w1.grownBy w2 m.tv.ownBlock)(hat:m.tv.ownBlock=some g\/g=H)(hH:w1.heap.size=H) :
 bu (w2.setCell ⟨bv,2,none⟩ (.slice (some ⟨g,0,none⟩) (n+1) cap)) bv bm bo { G with tr:=G.tr++[x] } { m with tv:=.slice (some ⟨g,0,none⟩) (n+1) cap,tb:=m.tb++[nb] } /\
  (∀b,Lm.F { m with tv:=.slice (some ⟨g,0,none⟩) (n+1) cap,tb:=m.tb++[nb] } b->m.F b\/b=nb\/H<=b)/\au (fun b=>b=bv\/m.tv.ownBlock=some b) w1 (w2.setCell ⟨bv,2,none⟩ (.slice (some ⟨g,0,none⟩) (n+1) cap)):=by
 have hb2:az w2 bv (qM bm bo m G.day) 100:=(hgrow.block bv h.dA.lt (fun e=>h.Jb (.inl e.symm))).trans h.dA
 have k2:au (fun b=>b=bv\/m.tv.ownBlock=some b) w1 (w2.setCell ⟨bv,2,none⟩ (.slice (some ⟨g,0,none⟩) (n+1) cap)) :=
  ((au.refl _ w1).grown hgrow (fun k e=>.inl (.inr e))).setCell (p:=⟨bv,2,none⟩) (.inl (.inl rfl)) _
 have k3:au (fun b=>b=bv) w2 (w2.setCell ⟨bv,2,none⟩ (.slice (some ⟨g,0,none⟩) (n+1) cap)):=(au.refl (fun b=>b=bv) w2).setCell (p:=⟨bv,2,none⟩) (.inl rfl) _
 have kQ:∀{b c},az w1 b c 105->¬(b=bv\/m.tv.ownBlock=some b):=by
  rintro b c hbk (e|e)
  ·exact az.ne hbk h.dA (by decide) e
  ·exact bV h.aO.jq e hbk (by decide) rfl
 refine⟨⟨hb2.set 2 _,?_⟩,?_,k2⟩
 ·refine⟨?_,aG h.aO.iF k2 ?_,by simp[h.aO.len],fun i b g hi hg=>?_,?_,h.aO.act.aC k2 ?_,aG h.aO.kH k2 ?_,h.aO.jb⟩
  ·simp only[List.length_append,List.length_cons,List.length_nil,hn,List.map_append,List.map_cons,List.map_nil]
   exact aG hown k3 (fun b hb e=>bV hown hb hb2 (by decide) e)
  ·rintro b hb (e|e)
   ·exact bV h.aO.iF hb h.dA (by decide) e
   ·obtain⟨cs,hc⟩:=bF h.aO.jq e
    exact bV h.aO.iF hb hc (by decide) rfl
  ·simp only at hi hg
   by_cases e:i<m.tb.length
   ·rw[List.getElem?_append_left e]at hi
    rw[List.getElem?_append_left (by rw[<-h.aO.len];exact e)]at hg
    have hbk:=h.aO.aB i b g hi hg
    exact k2.aB hbk (kQ hbk)
   ·rw[List.getElem?_append_right (by omega)]at hi
    rw[List.getElem?_append_right (by rw[<-h.aO.len];omega),<-h.aO.len]at hg
    have e0:i-m.tb.length=0:=by
     rcases Nat.eq_zero_or_pos (i-m.tb.length) with e0|e0
     ·exact e0
     ·rw[List.getElem?_eq_none (by simp;omega)]at hi;simp at hi
    rw[e0]at hi hg
    simp at hi hg
    subst hi;subst hg
    exact k2.aB hnb (kQ hnb)
  ·exact List.nodup_append.2 ⟨h.aO.nodup,by simp,by rintro a ha b hb rfl;simp at hb;subst hb;exact hnew ha⟩
  ·intro b hb
   obtain⟨cs,t,hc,ht⟩:=h.aO.act.fZ hb
   rintro (e|e)
   ·exact az.ne hc h.dA (by rcases ht with rfl|rfl <;> decide) e
   ·exact bV h.aO.jq e hc (by rcases ht with rfl|rfl <;> decide) rfl
  ·rintro b hb (e|e)
   ·exact bV h.aO.kH hb h.dA (by decide) e
   ·obtain⟨cs,hc⟩:=bF h.aO.jq e
    exact bV h.aO.kH hb hc (by decide) rfl
 ·rintro b (hb|hb|hb|hb)
  ·simp only[Value.ownBlock,Option.some.injEq]at hb
   rcases hat with e|e
   ·exact .inl (.inl (by rw[e,hb]))
   ·right;right;omega
  ·exact .inl (.inr (.inl hb))
  ·simp only[List.mem_append,List.mem_singleton]at hb
   rcases hb with hb|hb
   ·exact .inl (.inr (.inr (.inl hb)))
   ·exact .inr (.inl hb)
  ·exact .inl (.inr (.inr (.inr hb)))
end Go.Proofs.YtigaphnafnpfnaaGreatDoor
