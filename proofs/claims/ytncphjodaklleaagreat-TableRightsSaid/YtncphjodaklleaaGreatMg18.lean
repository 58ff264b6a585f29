/-
 Texts of this claim, merged: FlRef, FlMem.
-/
import Derived.Test.YtncphjodaklleaaGreatMg03
import Derived.Test.YtncphjodaklleaaGreatMg07
import Derived.Test.YtncphjodaklleaaGreatMg12
import Derived.Test.YtncphjodaklleaaGreatMg13
import Derived.Test.YtncphjodaklleaaGreatMg16
import Derived.Test.YtncphjodaklleaaGreatMg17
import Derived.Laws.Rows
namespace Go.Proofs.YtncphjodaklleaaGreat
open Go.RowKit
theorem NumsOr.of_own {A:Option Addr} {L0 M X Y:List Int} {y:Int} {w w':World} {base n m:Nat} {v:Value} (h:w'.ownsRow base 3 LNum.m v (0+n+1+m) ([]++LNum.all X++LNum.all [y]++LNum.all Y)) (hM:M=X++y :: Y) (hb:Below w.heap.size w w') (hbase:w.heap.size≤base):NumsOr A L0 M w (.returned v) w':=by
 have e:[]++LNum.all X++LNum.all [y]++LNum.all Y=LNum.all M:=by
  rw [List.nil_append,hM,LNum.all_append,LNum.all_one,LNum.all_cons y Y,List.append_assoc]
 rw [e] at h
 have hlt:=h.lt
 obtain ⟨hn,B,d,rfl,hc,hR⟩:=Lies.Row.of_own (E:=LNum) h
 rw [hn] at hc hlt ⊢
 exact ⟨B,d,rfl,hR,hc,hb,.inr fun a ha=>by
  subst ha
  exact Nat.le_trans hbase (hlt a.block rfl).1⟩
namespace Fl
theorem put_at {L:List Int} {n:Int} {K:Nat} (hK:(L.takeWhile fun x=>decide (x<n)).length=K):put L n=if L[K]? = some n then L else L.take K++n :: L.drop K:=by
 subst hK
 unfold put
 rw [Dm.tw_take,Dm.tw_drop,← Dm.tw_drop,List.getElem?_drop,Nat.add_zero,Dm.tw_drop]
end Fl
open Go.RowKit
abbrev grdO (p:Pl.Plan) (A:Option Addr) (c:Nat) (A':Option Addr) (c':Nat) (B:Option Addr) (d n:Nat) (v7 v8 v9:Value):Obj:=.cells #[.int .i64 p.ov,.int .i64 p.ap,.int .i64 p.se,.int .i64 p.ho,.slice A p.secs.length c,.slice A' p.sigs.length c',.slice B n d,v7,v8,v9] 161
structure GrdV where
 B1:Option Addr
 d1:Nat
 B2:Option Addr
 d2:Nat
 v:Value
structure GrdAt (p:Pl.Plan) (A:Option Addr) (c:Nat) (A':Option Addr) (c':Nat) (B:Option Addr) (d n:Nat) (G:Nat) (w0 wr:World) (V:GrdV) (g:Fl.G):Prop where
 below:Below w0.heap.size w0 wr
 hG:w0.heap.size≤G
 at_:wr.heap[G]? = some (grdO p A c A' c' B d n (.slice V.B1 g.pts.length V.d1) (.slice V.B2 g.fl.length V.d2) V.v)
 pts:LDem.Row wr V.B1 g.pts
 fl:LNum.Row wr V.B2 g.fl
 l1:g.pts.length≤V.d1
 l2:g.fl.length≤V.d2
 seen:wr.ownsRow (G+1) 3 LNum.m V.v g.seen.length (LNum.all g.seen)
 n1:g.pts≠[]→∀ a,V.B1=some a→a.block≠G∧V.v.ownBlock≠some a.block∧a.block<wr.heap.size∧w0.heap.size≤a.block
 n2:g.fl≠[]→∀ a,V.B2=some a→a.block≠G∧V.v.ownBlock≠some a.block∧a.block<wr.heap.size∧w0.heap.size≤a.block
section
variable {p : Pl.Plan} {A : Option Addr} {c : Nat} {A' : Option Addr} {c' : Nat} {B : Option Addr} {d n : Nat} {G : Nat} {w0 wr : World} {V : GrdV} {g : Fl.G}
theorem GrdAt.lt (h:GrdAt p A c A' c' B d n G w0 wr V g):G<wr.heap.size:=(Array.getElem?_eq_some_iff.1 h.at_).1
theorem GrdAt.next {w2:World} (h:GrdAt p A c A' c' B d n G w0 wr V g) (hb:Below wr.heap.size wr w2):GrdAt p A c A' c' B d n G w0 w2 V g :=
 ⟨h.below.trans (hb.mono h.below.size),h.hG,(hb.block _ h.lt).trans h.at_,h.pts.below rfl hb,h.fl.below rfl hb,h.l1,h.l2,ownsRow_below h.seen hb,
  fun hz a ha=>⟨(h.n1 hz a ha).1,(h.n1 hz a ha).2.1,Nat.lt_of_lt_of_le (h.n1 hz a ha).2.2.1 hb.size,(h.n1 hz a ha).2.2.2⟩,fun hz a ha=>⟨(h.n2 hz a ha).1,(h.n2 hz a ha).2.1,Nat.lt_of_lt_of_le (h.n2 hz a ha).2.2.1 hb.size,(h.n2 hz a ha).2.2.2⟩⟩
theorem GrdAt.own_lt (h:GrdAt p A c A' c' B d n G w0 wr V g) {k:Nat} (hk:V.v.ownBlock=some k):k<wr.heap.size:=(h.seen.lt k hk).2
theorem GrdAt.setPts {L:List Dm.Dem} {B1:Option Addr} {d1:Nat} {w2:World} (h:GrdAt p A c A' c' B d n G w0 wr V g) (hb:Below wr.heap.size wr w2) (hR:LDem.Row w2 B1 L) (hl:L.length≤d1) (hn:(B1=V.B1∧L=g.pts)∨∀ a,B1=some a→wr.heap.size≤a.block) (hlt:L≠[]→∀ a,B1=some a→a.block<w2.heap.size) :
 GrdAt p A c A' c' B d n G w0 (w2.setCell ⟨G,7,none⟩ (.slice B1 L.length d1)) ⟨B1,d1,V.B2,V.d2,V.v⟩ { g with pts:=L }:=by
 have hG:=h.lt
 have hV:∀ k,V.v.ownBlock=some k→k<wr.heap.size:=fun k hk=>h.own_lt hk
 obtain ⟨h1,h2,h3,h4,h5,h6,h7,h8,h9,h10⟩:=h.next hb
 have q1:L≠[]→∀ a,B1=some a→a.block≠G∧V.v.ownBlock≠some a.block∧a.block<w2.heap.size∧w0.heap.size≤a.block:=fun hz a ha=>by
  rcases hn with ⟨hn,hn2⟩ | hn
  ·exact h9 (hn2 ▸ hz) a (hn ▸ ha)
  ·have:=hn a ha
   exact ⟨by omega,fun e=>by have:=hV _ e;omega,hlt hz a ha,by have:=h.below.size;omega⟩
 refine ⟨h1.setCell h2 _,h2,?_,hR.kept (by simp) fun hz a ha=>heap_setCell_other _ _ _ _ (q1 hz a ha).1,h5.kept (by simp) fun hz a ha=>heap_setCell_other _ _ _ _ (h10 hz a ha).1,hl,h7,own_kept h8 fun b hb=>heap_setCell_other _ _ _ _ fun e=>?_,fun hz a ha=>⟨(q1 hz a ha).1,(q1 hz a ha).2.1,by simpa using (q1 hz a ha).2.2.1,(q1 hz a ha).2.2.2⟩,fun hz a ha=>⟨(h10 hz a ha).1,(h10 hz a ha).2.1,by simpa using (h10 hz a ha).2.2.1,(h10 hz a ha).2.2.2⟩⟩
 ·rw[heap_setCell_same _ _ _ _ _ _ h3];rfl
 ·have:=(h8.lt b hb).1
  have e':b=G:=e
  omega
theorem GrdAt.clear (h:GrdAt p A c A' c' B d n G w0 wr V g):GrdAt p A c A' c' B d n G w0 (wr.setCell ⟨G,9,none⟩ (.slice none 0 0)) ⟨V.B1,V.d1,V.B2,V.d2,.slice none 0 0⟩ { g with seen:=[] }:=by
 obtain ⟨h1,h2,h3,h4,h5,h6,h7,h8,h9,h10⟩:=h
 refine ⟨h1.setCell h2 _,h2,?_,h4.kept (by simp) fun hz a ha=>heap_setCell_other _ _ _ _ (h9 hz a ha).1,h5.kept (by simp) fun hz a ha=>heap_setCell_other _ _ _ _ (h10 hz a ha).1,h6,h7,⟨rfl,.inl ⟨rfl,rfl⟩⟩,fun hz a ha=>⟨(h9 hz a ha).1,(fun e=>by cases e),by simpa using (h9 hz a ha).2.2.1,(h9 hz a ha).2.2.2⟩,fun hz a ha=>⟨(h10 hz a ha).1,(fun e=>by cases e),by simpa using (h10 hz a ha).2.2.1,(h10 hz a ha).2.2.2⟩⟩
 rw [heap_setCell_same _ _ _ _ _ _ h3];rfl
theorem GrdAt.see {q:Int} {w2 w4:World} {v':Value} (h:GrdAt p A c A' c' B d n G w0 wr V g) (hb:Below wr.heap.size wr w2) (hown:w4.ownsRow (G+1) 3 LNum.m v' (g.seen.length+1) (LNum.all g.seen++LNum.all [q])) (hg:w2.grownBy w4 V.v.ownBlock) (hv:∀ k,v'.ownBlock=some k→V.v.ownBlock=some k∨wr.heap.size≤k) :
 GrdAt p A c A' c' B d n G w0 (w4.setCell ⟨G,9,none⟩ v') ⟨V.B1,V.d1,V.B2,V.d2,v'⟩ { g with seen:=g.seen++[q] }:=by
 have hGl:=h.lt
 have k1:=h.n1
 have k2:=h.n2
 obtain ⟨h1,h2,h3,h4,h5,h6,h7,h8,h9,h10⟩:=h.next hb
 have hs:w2.heap.size≤w4.heap.size:=hg.size
 have e3:w4.heap[G]? = w2.heap[G]?:=hg.block G (by have:=hb.size;omega) (fun e=>by have:=(h8.lt G e.symm).1;omega)
 refine ⟨((h1.grown hg (by have:=h1.size;omega) fun k hk=>?_).setCell h2 _),h2,?_,h4.kept (by simp;omega) fun hz a ha=>(heap_setCell_other _ _ _ _ (h9 hz a ha).1).trans (hg.block _ (h9 hz a ha).2.2.1 fun e=>(h9 hz a ha).2.1 e.symm),h5.kept (by simp;omega) fun hz a ha=>(heap_setCell_other _ _ _ _ (h10 hz a ha).1).trans (hg.block _ (h10 hz a ha).2.2.1 fun e=>(h10 hz a ha).2.1 e.symm),h6,h7,?_,fun hz a ha=>⟨(h9 hz a ha).1,fun e=>?_,by have:=(h9 hz a ha).2.2.1;simp;omega,(h9 hz a ha).2.2.2⟩,fun hz a ha=>⟨(h10 hz a ha).1,fun e=>?_,by have:=(h10 hz a ha).2.2.1;simp;omega,(h10 hz a ha).2.2.2⟩⟩
 ·have:=(h8.lt k hk).1;omega
 ·rw[heap_setCell_same _ _ _ _ _ _ (e3.trans h3)];rfl
 ·refine own_kept ?_ fun b hb=>heap_setCell_other _ _ _ _ fun e=>?_
  ·show w4.ownsRow (G+1) 3 LNum.m v' (g.seen++[q]).length (LNum.all (g.seen++[q]))
   rw [List.length_append,LNum.all_append];exact hown
  ·have:=(hown.lt b hb).1
   have e':b=G:=e
   omega
 ·rcases hv _ e with e | e
  ·exact (h9 hz a ha).2.1 e
  ·have:=(k1 hz a ha).2.2.1;omega
 ·rcases hv _ e with e | e
  ·exact (h10 hz a ha).2.1 e
  ·have:=(k2 hz a ha).2.2.1;omega
end
end Go.Proofs.YtncphjodaklleaaGreat
