/-
 Texts of this claim, merged: CrHunt, CrHuntC.
-/
import Derived.Test.YtncphjodaklleaaGreatMg13
import Derived.Deep.RegionHeld3
namespace Go.Proofs.YtncphjodaklleaaGreat
open Go.RowKit
abbrev huntO (p:Pl.Plan) (A:Option Addr) (c:Nat) (A':Option Addr) (c':Nat) (b:Int) (h:Cr.HSt) (v:Value):Obj:=.cells #[.int .i64 p.ov,.int .i64 p.ap,.int .i64 p.se,.int .i64 p.ho,.slice A p.secs.length c,.slice A' p.sigs.length c',.int .i64 b,.int .i64 h.tries,.bool h.long,v] 112
def HuntAt (p:Pl.Plan) (A:Option Addr) (c:Nat) (A':Option Addr) (c':Nat) (b:Int) (g:Nat) (w0 wr:World) (v:Value) (h:Cr.HSt):Prop :=
 Below w0.heap.size w0 wr∧w0.heap.size≤g∧wr.heap[g]? = some (huntO p A c A' c' b h v)∧∃ M:List WayM,M.map WayM.way=h.out∧wr.ownsRow w0.heap.size 80 LWay.m v M.length (LWay.all M)∧∀ m∈M,OwnS w0.heap.size wr m.A m.c m.way.steps
abbrev HTame (w w':World):Prop:=Tame 112 80 w w'
theorem set_tame {w:World} {g i:Nat} {cs:Array Value} {tH tW:TypeId} {u:Value} (h:w.heap[g]? = some (.cells cs tH (0,0))):Tame tH tW w (w.setCell ⟨g,i,none⟩ u):=by
 have B:=(Below.refl 0 w).setCell (p:=⟨g,i,none⟩) (Nat.zero_le _) u
 refine ⟨B.os,B.tape,B.output,B.size,fun b cs' t fr hb h1 _=>?_⟩
 have hne:b≠g:=fun e=>by
  subst e
  rw [h] at hb
  cases hb
  exact h1 rfl
 rw [heap_setCell_other _ _ _ _ hne]
 exact hb
theorem set_own {w:World} {g i:Nat} {cs:Array Value} {t:TypeId} {u:Value} (h:w.heap[g]? = some (.cells cs t (0,0))) {base:Nat} {e:TypeId} {size:Nat} {v:Value} {n:Nat} {xs:List Value} (ho:w.ownsRow base e size v n xs) (he:e≠t):(w.setCell ⟨g,i,none⟩ u).ownsRow base e size v n xs :=
 own_kept ho fun b hb=>heap_setCell_other _ _ _ _ fun e'=>own_block ho h he ((show b=g from e') ▸ hb)
section
variable {p : Pl.Plan} {A : Option Addr} {c : Nat} {A' : Option Addr} {c' : Nat} {b : Int} {g : Nat} {w0 wr : World} {v : Value} {h : Cr.HSt}
theorem HuntAt.below {w2:World} (hh:HuntAt p A c A' c' b g w0 wr v h) (hb:Below wr.heap.size wr w2):HuntAt p A c A' c' b g w0 w2 v h:=by
 obtain ⟨h1,h2,h3,M,h4,h5,h6⟩:=hh
 exact ⟨h1.trans (hb.mono h1.size),h2,(hb.block _ (Array.getElem?_eq_some_iff.1 h3).1).trans h3,M,h4,ownsRow_below h5 hb,fun m hm=>ownsRow_below (h6 m hm) hb⟩
theorem HuntAt.set {i:Nat} {u:Value} {h':Cr.HSt} (hh:HuntAt p A c A' c' b g w0 wr v h) (ho:h'.out=h.out) (hc:(huntO p A c A' c' b h' v)=.cells ((match huntO p A c A' c' b h v with | .cells cs _ _=>cs | _=>#[]).setIfInBounds i u) 112 (0,0)):HuntAt p A c A' c' b g w0 (wr.setCell ⟨g,i,none⟩ u) v h'∧HTame wr (wr.setCell ⟨g,i,none⟩ u):=by
 obtain ⟨h1,h2,h3,M,h4,h5,h6⟩:=hh
 refine ⟨⟨h1.setCell h2 _,h2,?_,M,h4.trans ho.symm,set_own h3 h5 (by decide),fun m hm=>set_own h3 (h6 m hm) (by decide)⟩,set_tame h3⟩
 rw [heap_setCell_same _ _ _ _ _ _ h3,hc]
theorem HuntAt.tries {t:Int} {n:Nat} (hh:HuntAt p A c A' c' b g w0 wr v h) (ht:t=n):HuntAt p A c A' c' b g w0 (wr.setCell ⟨g,7,none⟩ (.int .i64 t)) v ⟨n,h.long,h.out⟩∧HTame wr (wr.setCell ⟨g,7,none⟩ (.int .i64 t)):=by
 subst ht
 exact hh.set rfl rfl
theorem HuntAt.far {l:Bool} (hh:HuntAt p A c A' c' b g w0 wr v h):HuntAt p A c A' c' b g w0 (wr.setCell ⟨g,8,none⟩ (.bool l)) v ⟨h.tries,l,h.out⟩∧HTame wr (wr.setCell ⟨g,8,none⟩ (.bool l)) :=
 hh.set rfl rfl
theorem HuntAt.came (hh:HuntAt p A c A' c' b g w0 wr v h):HuntAt p A c A' c' b g w0 ((wr.setCell ⟨g,7,none⟩ (.int .i64 ((h.tries:Int)+1))).setCell ⟨g,8,none⟩ (.bool (Cr.came h).long)) v (Cr.came h)∧HTame wr ((wr.setCell ⟨g,7,none⟩ (.int .i64 ((h.tries:Int)+1))).setCell ⟨g,8,none⟩ (.bool (Cr.came h).long)):=by
 obtain ⟨h1,t1⟩:=hh.tries (n:=h.tries+1) rfl
 obtain ⟨h2,t2⟩:=h1.far (l:=(Cr.came h).long)
 exact ⟨h2,t1.trans t2⟩
end
open Go.RowKit
def TRow {α:Type} (t:TypeId) (E:Lies α) (w:World) (A:Option Addr) (L:List α):Prop:=L=[]∨∃ (b o:Nat) (cs:Array Value) (fr:Nat × Nat),A=some ⟨b,o,none⟩∧w.heap[b]? = some (.cells cs t fr)∧∀ k y,L[k]? = some y→E.On w b (o+k * E.m) y
section
variable {α : Type} {t : TypeId} {E : Lies α} {w : World} {A : Option Addr} {L : List α}
theorem TRow.row (h:TRow t E w A L):E.Row w A L:=by
 rcases h with rfl | ⟨b,o,cs,fr,hA,hb,h⟩
 ·exact .inl rfl
 ·exact .inr ⟨b,o,hA,(Array.getElem?_eq_some_iff.1 hb).1,h⟩
theorem TRow.below {w':World} (h:TRow t E w A L) (hb:Below w.heap.size w w'):TRow t E w' A L:=by
 rcases h with rfl | ⟨b,o,cs,fr,hA,hg,h⟩
 ·exact .inl rfl
 ·have hlt:=(Array.getElem?_eq_some_iff.1 hg).1
  exact .inr ⟨b,o,cs,fr,hA,(hb.block _ hlt).trans hg,fun k y hk=>(h k y hk).below hlt hb⟩
theorem TRow.set (h:TRow t E w A L) {g i:Nat} {cs:Array Value} {t':TypeId} {fr:Nat × Nat} {v:Value} (hg:w.heap[g]? = some (.cells cs t' fr)) (ht:t≠t'):TRow t E (w.setCell ⟨g,i,none⟩ v) A L:=by
 rcases h with rfl | ⟨b,o,cs',fr',hA,hb,h⟩
 ·exact .inl rfl
 ·have hne:b≠g:=fun e=>by
   subst e
   rw [hb] at hg
   cases hg
   exact ht rfl
  have hh:(w.setCell ⟨g,i,none⟩ v).heap[b]? = w.heap[b]?:=heap_setCell_other _ _ _ _ hne
  exact .inr ⟨b,o,cs',fr',hA,hh.trans hb,fun k y hk j u hu=>(World.cell?_of_block (a:=⟨b,_,none⟩) hh).trans (h k y hk j u hu)⟩
theorem TRow.drew (h:TRow t E w A L):TRow t E w.drew A L:=h
theorem TRow.of_own {base n:Nat} {v:Value} (h:w.ownsRow base t E.m v n (E.all L)):n=L.length∧∃ A c,v=.slice A n c∧L.length≤c∧TRow t E w A L:=by
 obtain ⟨h1,A,c,hv,hc,hR⟩:=Lies.Row.of_own h
 refine ⟨h1,A,c,hv,by rw[← h1];exact hc,?_⟩
 rcases h.2 with ⟨h2,h3⟩ | ⟨g,cap,cur,h2,-,hg,-⟩
 ·exact .inl (List.eq_nil_of_length_eq_zero (by omega))
 ·rw [hv] at h2
  cases h2
  rcases hR with rfl | ⟨b,o,hA,-,hon⟩
  ·exact .inl rfl
  ·cases hA
   exact .inr ⟨g,0,cur,(0,0),rfl,hg,hon⟩
end
def WaysT (w:World) (A:Option Addr) (L:List Cr.Way):Prop:=∃ M:List WayM,M.map WayM.way=L∧TRow 80 LWay w A M∧∀ m∈M,TRow 123 LStp w m.A m.way.steps∧m.way.steps.length≤m.c
theorem WaysT.nil (w:World) (A:Option Addr):WaysT w A []:=⟨[],rfl,.inl rfl,fun _ h=>(by cases h)⟩
theorem WaysT.ways {w:World} {A:Option Addr} {L:List Cr.Way} (h:WaysT w A L):WaysIn w A L:=by
 obtain ⟨M,h1,h2,h3⟩:=h
 exact ⟨M,h1,h2.row,fun m hm=>⟨(h3 m hm).1.row,(h3 m hm).2⟩⟩
theorem WaysT.below {w w':World} {A:Option Addr} {L:List Cr.Way} (h:WaysT w A L) (hb:Below w.heap.size w w'):WaysT w' A L:=by
 obtain ⟨M,h1,h2,h3⟩:=h
 exact ⟨M,h1,h2.below hb,fun m hm=>⟨(h3 m hm).1.below hb,(h3 m hm).2⟩⟩
theorem WaysT.set {w:World} {A:Option Addr} {L:List Cr.Way} (h:WaysT w A L) {g i:Nat} {cs:Array Value} {t':TypeId} {fr:Nat × Nat} {v:Value} (hg:w.heap[g]? = some (.cells cs t' fr)) (h1:80≠t') (h2:123≠t'):WaysT (w.setCell ⟨g,i,none⟩ v) A L:=by
 obtain ⟨M,e1,e2,e3⟩:=h
 exact ⟨M,e1,e2.set hg h1,fun m hm=>⟨(e3 m hm).1.set hg h2,(e3 m hm).2⟩⟩
theorem WaysT.at {w:World} {A:Option Addr} {L:List Cr.Way} (h:WaysT w A L) {k:Nat} {y:Cr.Way} (hk:L[k]? = some y):∃ b o S d,A=some ⟨b,o,none⟩∧b<w.heap.size∧w.cell? ⟨b,o+k * 2,none⟩ = some (.slice S y.steps.length d)∧w.cell? ⟨b,o+k * 2+1,none⟩ = some (.int .i64 y.exit)∧TRow 123 LStp w S y.steps∧y.steps.length≤d:=by
 obtain ⟨M,rfl,h2,h3⟩:=h
 rw [List.getElem?_map] at hk
 cases hm:M[k]? with
 | none=>rw[hm] at hk;cases hk
 | some m =>
   rw [hm] at hk
   obtain rfl:m.way=y:=Option.some.inj hk
   obtain ⟨hlt,hmk⟩:=List.getElem?_eq_some_iff.1 hm
   obtain ⟨b,o,hA,hb,on⟩:=h2.row.at hlt
   rw [hmk] at on
   obtain ⟨c0,c1⟩:=way_on on
   exact ⟨b,o,m.A,m.c,hA,hb,c0,c1,h3 m (List.mem_of_getElem? hm)⟩
def WaysTYes (x:List Cr.Way × Int) (w:World) (e:Ending) (w':World):Prop:=∃ A c,e=.returned (.tuple #[.slice A x.1.length c,.int .i64 x.2])∧WaysT w' A x.1∧Below w.heap.size w w'
theorem HuntAt.ways {p:Pl.Plan} {A:Option Addr} {c:Nat} {A':Option Addr} {c':Nat} {b:Int} {g:Nat} {w0 wr:World} {v:Value} {h:Cr.HSt} (hh:HuntAt p A c A' c' b g w0 wr v h):∃ B d,v=.slice B h.out.length d∧WaysT wr B h.out:=by
 obtain ⟨-,-,-,M,h4,h5,h6⟩:=hh
 obtain ⟨-,B,d,rfl,-,hR⟩:=TRow.of_own h5
 have hl:M.length=h.out.length:=by rw[← h4,List.length_map]
 exact ⟨B,d,by rw[hl],M,h4,hR,fun m hm=>by
  obtain ⟨-,B',d',hv,hc,hS⟩:=TRow.of_own (E:=LStp) (h6 m hm)
  cases hv
  exact ⟨hS,hc⟩⟩
end Go.Proofs.YtncphjodaklleaaGreat
