/-
 Texts of this claim, merged: WkMem.
-/
import Derived.Test.YtncphjodaklleaaGreatMg02
import Derived.Test.YtncphjodaklleaaGreatMg09
import Derived.Deep.CutRange
namespace Go.Proofs.YtncphjodaklleaaGreat
open Go.RowKit
def stpCells (x:Wk.Stp):List Value:=[.int .i64 x.s,.int .i64 x.f,.int .i64 x.t]
def LStp:Lies Wk.Stp:=⟨3,by decide,stpCells,fun _=>rfl,fun y u hu=>by
 simp [stpCells] at hu
 rcases hu with rfl | rfl | rfl <;> rfl⟩
theorem stp_on {w:World} {b o:Nat} {g:Wk.Stp} (h:LStp.On w b o g):w.cell? ⟨b,o,none⟩ = some (.int .i64 g.s)∧w.cell? ⟨b,o+1,none⟩ = some (.int .i64 g.f)∧w.cell? ⟨b,o+2,none⟩ = some (.int .i64 g.t) :=
 ⟨h 0 _ rfl,h 1 _ rfl,h 2 _ rfl⟩
abbrev stpV (x:Wk.Stp):Value:=.agg #[.int .i64 x.s,.int .i64 x.f,.int .i64 x.t]
def StepsYes (L:List Wk.Stp) (w:World) (e:Ending) (w':World):Prop:=∃ A c,e=.returned (.slice A L.length c)∧LStp.Row w' A L∧Below w.heap.size w w'
def madeP (l:List UInt8):Option Pl.Plan:=if l.length≤1500∧(Pl.builtP l).2.1=0 then some (Pl.builtP l).1 else none
theorem madeP_some {l:List UInt8} {p:Pl.Plan} (h:madeP l=some p):Pl.Fit p∧∃ L,Pl.Ok L∧Pl.Shut L∧p=Pl.fin L:=by
 unfold madeP at h
 split at h
 ·rename_i h2
  have e1:(Pl.builtP l).1=p:=Option.some.inj h
  have h3:Pl.builtP l=(p,0,0):=by
   rcases hb:Pl.builtP l with ⟨q,e,n⟩
   rw [hb] at h2 e1
   simp only at h2 e1
   obtain ⟨-,rfl⟩:=h2
   subst e1
   unfold Pl.builtP at hb
   split at hb
   ·have hz:(Pl.build (Sh.parse l).1).2.1=0:=by rw[hb]
    obtain ⟨_,_,h5⟩:=Pl.build_zero hz
    rw [h5] at hb
    obtain ⟨-,h7⟩:=Prod.mk.inj hb
    rw [← (Prod.mk.inj h7).2]
   ·have:=congrArg (fun x=>x.2.1) hb
    simp at this
  exact builtP_fit h3
 ·cases h
def MadeYes (p:Pl.Plan) (w:World) (e:Ending) (w':World):Prop:=∃ A c A' c',e=.returned (.tuple #[planV p A c A' c',.bool true])∧PlanIn w' p A A'∧Below w.heap.size w w'
end Go.Proofs.YtncphjodaklleaaGreat
