/-
  No cell of these rows narrows 'for every input' (looked for: loops, veiled, ifaces, maps, wideKeys, modest, calm, conditions, laid).
  DERIVED. THE GIVEN ROWS OF THIS SEAT. 4 by the template 'for every input the law returns true; each argument reads behind the call as it read before'; 0 by the template 'total and deterministic' (their statements: YtpdfbnolhpakoaaGreatTotals.lean).
  GIVEN WITH THE SEED: the statements are not yours to turn. If you find one false, say at which input.
  Laid BY PROGRAM, IN A SANDBOX (cutbox-rows.mjs): the forced cells as the released guide's own fill.sh prints them over the translation d7dd3e54d2154082… (all of the seat's roots in one cut). By AI agents, Wed Nov 11 2026. No macro, syntax, notation, axiom, sorry.
-/
import Derived.Test.YtpdfbnolhpakoaaGreatChecked
import GoSem.Claim
import GoSem.ClaimJoined
import GoSem.ClaimMapViews
import Derived.JoinedTies
import Derived.KernelRfl
namespace Go.Proofs.YtpdfbnolhpakoaaGreat
/- THE CELL 'sum', in the pinned program and in every row, IS THE sha256 OF THE DUMP (.gsa) THAT YtpdfbnolhpakoaaGreatProg.lean LOADS. Nothing in Lean hashes anything: it is a label: what it is worth is what the hold of that sum in a sandbox is worth. -/
noncomputable def Tryz.pinned : Pinned := { name := "ytpdfbnolhpakoaagreat", sum := "d7dd3e54d21540826c550928fb4e15ebe0e3468d82e2a5beadfde8fc6865b28c", checked := Tryz.checked }
namespace Rows
def none {H : Type} : Left H := { results := [], args := [] }

/-- 'levermanlaw12.RouteTells': WHATEVER THE INPUT: true; the input reads as it did. -/
def routeTellsSpec : ChangeSpec := { name := "routeTells", fn := fun _ => fun
  | [d1, d2] => { results := [.lit (.bool true)], args := [d1, d2] }
  | _ => none }
def routeTellsRow : OpenClaim := { program := "ytpdfbnolhpakoaagreat", sum := "d7dd3e54d21540826c550928fb4e15ebe0e3468d82e2a5beadfde8fc6865b28c", func := "leverman/levermanlaw12.RouteTells", spec := "routeTells", unfollowed := true, recurses := true, apart := false }
def RouteTellsSaid : Prop := routeTellsRow.holds Tryz.pinned (OpenSpec.ofChange routeTellsSpec)

/-- ITS FALSE NEIGHBOUR: 'it returns false'. Refute it at one input. -/
def routeTellsWrong : ChangeSpec := { name := "routeTells", fn := fun _ => fun
  | [d1, d2] => { results := [.lit (.bool false)], args := [d1, d2] }
  | _ => none }
def RouteTellsWrongFalsely : Prop := routeTellsRow.holds Tryz.pinned (OpenSpec.ofChange routeTellsWrong)

/-- 'levermanlaw12.RouteParts': WHATEVER THE INPUT: true; the input reads as it did. -/
def routePartsSpec : ChangeSpec := { name := "routeParts", fn := fun _ => fun
  | [d] => { results := [.lit (.bool true)], args := [d] }
  | _ => none }
def routePartsRow : OpenClaim := { program := "ytpdfbnolhpakoaagreat", sum := "d7dd3e54d21540826c550928fb4e15ebe0e3468d82e2a5beadfde8fc6865b28c", func := "leverman/levermanlaw12.RouteParts", spec := "routeParts", unfollowed := true, recurses := true, apart := false }
def RoutePartsSaid : Prop := routePartsRow.holds Tryz.pinned (OpenSpec.ofChange routePartsSpec)

/-- ITS FALSE NEIGHBOUR: 'it returns false'. Refute it at one input. -/
def routePartsWrong : ChangeSpec := { name := "routeParts", fn := fun _ => fun
  | [d] => { results := [.lit (.bool false)], args := [d] }
  | _ => none }
def RoutePartsWrongFalsely : Prop := routePartsRow.holds Tryz.pinned (OpenSpec.ofChange routePartsWrong)

/-- 'levermanlaw12.RouteAsks': WHATEVER THE INPUT: true; the input reads as it did. -/
def routeAsksSpec : ChangeSpec := { name := "routeAsks", fn := fun _ => fun
  | [d] => { results := [.lit (.bool true)], args := [d] }
  | _ => none }
def routeAsksRow : OpenClaim := { program := "ytpdfbnolhpakoaagreat", sum := "d7dd3e54d21540826c550928fb4e15ebe0e3468d82e2a5beadfde8fc6865b28c", func := "leverman/levermanlaw12.RouteAsks", spec := "routeAsks", unfollowed := true, recurses := true, apart := false }
def RouteAsksSaid : Prop := routeAsksRow.holds Tryz.pinned (OpenSpec.ofChange routeAsksSpec)

/-- ITS FALSE NEIGHBOUR: 'it returns false'. Refute it at one input. -/
def routeAsksWrong : ChangeSpec := { name := "routeAsks", fn := fun _ => fun
  | [d] => { results := [.lit (.bool false)], args := [d] }
  | _ => none }
def RouteAsksWrongFalsely : Prop := routeAsksRow.holds Tryz.pinned (OpenSpec.ofChange routeAsksWrong)

/-- 'levermanlaw12.RouteHolds': WHATEVER THE INPUT: true; the input reads as it did. -/
def routeHoldsSpec : ChangeSpec := { name := "routeHolds", fn := fun _ => fun
  | [d1, d2] => { results := [.lit (.bool true)], args := [d1, d2] }
  | _ => none }
def routeHoldsRow : OpenClaim := { program := "ytpdfbnolhpakoaagreat", sum := "d7dd3e54d21540826c550928fb4e15ebe0e3468d82e2a5beadfde8fc6865b28c", func := "leverman/levermanlaw12.RouteHolds", spec := "routeHolds", unfollowed := true, recurses := true, apart := false }
def RouteHoldsSaid : Prop := routeHoldsRow.holds Tryz.pinned (OpenSpec.ofChange routeHoldsSpec)

/-- ITS FALSE NEIGHBOUR: 'it returns false'. Refute it at one input. -/
def routeHoldsWrong : ChangeSpec := { name := "routeHolds", fn := fun _ => fun
  | [d1, d2] => { results := [.lit (.bool false)], args := [d1, d2] }
  | _ => none }
def RouteHoldsWrongFalsely : Prop := routeHoldsRow.holds Tryz.pinned (OpenSpec.ofChange routeHoldsWrong)

/- THE SECOND FORM. 'bulk': how many values and letters a reading holds, each counted each time it is reached (what is shared counts as often as it is met; a slice's spare places count too). A statement '..UptoSaid' is the law's where the arguments, and the package variables that the reading takes, are together of bulk at most 1048576: NARROWER than '..Said'. Prove '..Said' where nothing that the law and all that it calls make is longer than what came in: it says more and counts as full. Else prove '..UptoSaid'. A law counts once. -/
mutual
def uptoBulk {H : Type} : DataW H → Nat
  | .lit (.string bytes) => bytes.length + 1
  | .lit _ => 1
  | .nil => 1
  | .ptr d => uptoBulk d + 1
  | .slice elems spare => uptoBulkAll elems + uptoBulkAll spare + 1
  | .agg parts => uptoBulkAll parts + 1
  | .iface _ d => uptoBulk d + 1
  | .map entries => uptoBulkEntries entries + 1
  | .held _ => 1
def uptoBulkAll {H : Type} : List (DataW H) → Nat
  | [] => 0
  | d :: r => uptoBulk d + uptoBulkAll r
def uptoBulkEntries {H : Type} : List (Lit × DataW H) → Nat
  | [] => 0
  | x :: r => uptoBulkEntry x + uptoBulkEntries r
def uptoBulkEntry {H : Type} : Lit × DataW H → Nat
  | (.string bytes, d) => bytes.length + uptoBulk d + 1
  | (_, d) => uptoBulk d + 1
 end
def uptoSmall : (H : Type) → List (DataW H) → Bool := fun _ ds => decide (uptoBulkAll ds ≤ 1048576)
def OpenSpec.upto (s : _root_.Go.ChangeSpec) : _root_.Go.OpenSpec := { _root_.Go.OpenSpec.ofChange s with cond := some uptoSmall }

/-- 'levermanlaw12.RouteTells', WHERE WHAT IT READS IS OF BULK AT MOST 1048576: true; the input reads as it did. -/
def routeTellsUptoRow : OpenClaim := { program := "ytpdfbnolhpakoaagreat", sum := "d7dd3e54d21540826c550928fb4e15ebe0e3468d82e2a5beadfde8fc6865b28c", func := "leverman/levermanlaw12.RouteTells", spec := "routeTells", unfollowed := true, recurses := true, apart := false, narrowed := true }
def RouteTellsUptoSaid : Prop := routeTellsUptoRow.holds Tryz.pinned (OpenSpec.upto routeTellsSpec)

/-- 'levermanlaw12.RouteParts', WHERE WHAT IT READS IS OF BULK AT MOST 1048576: true; the input reads as it did. -/
def routePartsUptoRow : OpenClaim := { program := "ytpdfbnolhpakoaagreat", sum := "d7dd3e54d21540826c550928fb4e15ebe0e3468d82e2a5beadfde8fc6865b28c", func := "leverman/levermanlaw12.RouteParts", spec := "routeParts", unfollowed := true, recurses := true, apart := false, narrowed := true }
def RoutePartsUptoSaid : Prop := routePartsUptoRow.holds Tryz.pinned (OpenSpec.upto routePartsSpec)

/-- 'levermanlaw12.RouteAsks', WHERE WHAT IT READS IS OF BULK AT MOST 1048576: true; the input reads as it did. -/
def routeAsksUptoRow : OpenClaim := { program := "ytpdfbnolhpakoaagreat", sum := "d7dd3e54d21540826c550928fb4e15ebe0e3468d82e2a5beadfde8fc6865b28c", func := "leverman/levermanlaw12.RouteAsks", spec := "routeAsks", unfollowed := true, recurses := true, apart := false, narrowed := true }
def RouteAsksUptoSaid : Prop := routeAsksUptoRow.holds Tryz.pinned (OpenSpec.upto routeAsksSpec)

/-- 'levermanlaw12.RouteHolds', WHERE WHAT IT READS IS OF BULK AT MOST 1048576: true; the input reads as it did. -/
def routeHoldsUptoRow : OpenClaim := { program := "ytpdfbnolhpakoaagreat", sum := "d7dd3e54d21540826c550928fb4e15ebe0e3468d82e2a5beadfde8fc6865b28c", func := "leverman/levermanlaw12.RouteHolds", spec := "routeHolds", unfollowed := true, recurses := true, apart := false, narrowed := true }
def RouteHoldsUptoSaid : Prop := routeHoldsUptoRow.holds Tryz.pinned (OpenSpec.upto routeHoldsSpec)

end Rows
end Go.Proofs.YtpdfbnolhpakoaaGreat
