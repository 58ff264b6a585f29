/- Lemmas. -/
import Derived.Test.YtjofpclmbjpgjaaGreatMk08
namespace Go.Proofs.YtjofpclmbjpgjaaGreat
open Go.RowKit
def xN (x:Wk.Stp):List Value:=[.int .i64 x.s,.int .i64 x.f,.int .i64 x.t]
def aE:Lies Wk.Stp:=⟨3,by decide,xN,λ_=>rfl,λy u hu=>by
 simp[xN] at hu
 rcases hu with rfl|rfl|rfl <;> rfl⟩
theorem bL {w:World} {b o:Nat} {g:Wk.Stp} (h:aE.On w b o g):w.cell? ⟨b,o,none⟩=some (.int .i64 g.s)/\w.cell? ⟨b,o+1,none⟩=some (.int .i64 g.f)/\w.cell? ⟨b,o+2,none⟩=some (.int .i64 g.t) :=
 ⟨h 0 _ rfl,h 1 _ rfl,h 2 _ rfl⟩
abbrev jX (x:Wk.Stp):Value:=.agg #[.int .i64 x.s,.int .i64 x.f,.int .i64 x.t]
def AkW (L:List Wk.Stp) (w:World) (e:Ending) (w':World):Prop:=∃ A c,e=.returned (.slice A L.length c)/\aE.Row w' A L/\Below w.heap.size w w'
def fY (l:List UInt8):Option Pl.Plan:=if l.length<=1500/\(Pl.cL l).2.1=0 then some (Pl.cL l).1 else none
theorem oY {l:List UInt8} {p:Pl.Plan} (h:fY l=some p):Pl.Fit p/\∃ L,Pl.Ok L/\Pl.Shut L/\p=Pl.fin L:=by
 unfold fY at h
 split at h
 ·rename_i h2
  have e1:(Pl.cL l).1=p:=AsO h
  have h3:Pl.cL l=(p,0,0):=by
   rcases hb:Pl.cL l with ⟨q,e,n⟩
   rw[hb] at h2 e1
   simp only at h2 e1
   obtain⟨-,rfl⟩:=h2
   subst e1
   unfold Pl.cL at hb
   split at hb
   ·have hz:(Pl.build (Sh.parse l).1).2.1=0:=by rw[hb]
    obtain⟨_,_,h5⟩:=Pl.build_zero hz
    rw[h5] at hb
    obtain⟨-,h7⟩:=Prod.mk.inj hb
    rw[<-(Prod.mk.inj h7).2]
   have:=congrArg (λx=>x.2.1) hb
   simp at this
  exact AbI h3
 cases h
def ApT (w:World) (e:Ending) (w':World):Prop:=∃ p A c A' c',e=.returned (.tuple #[aR p A c A' c',.bool false])/\Below w.heap.size w w'
def AnR (p:Pl.Plan) (w:World) (e:Ending) (w':World):Prop:=∃ A c A' c',e=.returned (.tuple #[aR p A c A' c',.bool true])/\PlanIn w' p A A'/\Below w.heap.size w w'
end Go.Proofs.YtjofpclmbjpgjaaGreat
