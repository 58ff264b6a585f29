/-
  No cell of these rows narrows 'for every input' (looked for: loops, veiled, ifaces, maps, wideKeys, modest, calm, conditions, laid).
  DERIVED. THE GIVEN ROWS OF THIS SEAT. 4 by the template 'for every input the law returns true; each argument reads behind the call as it read before'; 0 by the template 'total and deterministic' (their statements: YtfmpjljddfaggaaTotals.lean).
  GIVEN WITH THE SEED: the statements are not yours to turn. If you find one false, say at which input.
  Laid BY PROGRAM, IN A SANDBOX (cutbox-rows.mjs): the forced cells as the released guide's own fill.sh prints them over the translation 86c9622d1ad0fdd5… (all of the seat's roots in one cut). By AI agents, Wed Nov 11 2026. No macro, syntax, notation, axiom, sorry.
-/
import Derived.Test.YtfmpjljddfaggaaChecked
import GoSem.Claim
import GoSem.ClaimJoined
import GoSem.ClaimMapViews
import Derived.JoinedTies
import Derived.KernelRfl
namespace Go.Proofs.Ytfmpjljddfaggaa
/- THE CELL 'sum', in the pinned program and in every row, IS THE sha256 OF THE DUMP (.gsa) THAT YtfmpjljddfaggaaProg.lean LOADS. Nothing in Lean hashes anything: it is a label: what it is worth is what the hold of that sum in a sandbox is worth. -/
noncomputable def Try.pinned : Pinned := { name := "ytfmpjljddfaggaa", sum := "86c9622d1ad0fdd5beb69300af81cf0ab2dba754fb045764794c593a35e3f113", checked := Try.checked }
namespace Rows
def none {H : Type} : Left H := { results := [], args := [] }

/-- 'levermanlaw08.LapTells': WHATEVER THE INPUT: true; the input reads as it did. -/
def lapTellsSpec : ChangeSpec := { name := "lapTells", fn := fun _ => fun
  | [d1, d2, d3] => { results := [.lit (.bool true)], args := [d1, d2, d3] }
  | _ => none }
def lapTellsRow : OpenClaim := { program := "ytfmpjljddfaggaa", sum := "86c9622d1ad0fdd5beb69300af81cf0ab2dba754fb045764794c593a35e3f113", func := "leverman/levermanlaw08.LapTells", spec := "lapTells", unfollowed := true, recurses := true, apart := false }
def LapTellsSaid : Prop := lapTellsRow.holds Try.pinned (OpenSpec.ofChange lapTellsSpec)

/-- ITS FALSE NEIGHBOUR: 'it returns false'. Refute it at one input. -/
def lapTellsWrong : ChangeSpec := { name := "lapTells", fn := fun _ => fun
  | [d1, d2, d3] => { results := [.lit (.bool false)], args := [d1, d2, d3] }
  | _ => none }
def LapTellsWrongFalsely : Prop := lapTellsRow.holds Try.pinned (OpenSpec.ofChange lapTellsWrong)

/-- 'levermanlaw08.LapWays': WHATEVER THE INPUT: true; the input reads as it did. -/
def lapWaysSpec : ChangeSpec := { name := "lapWays", fn := fun _ => fun
  | [d1, d2] => { results := [.lit (.bool true)], args := [d1, d2] }
  | _ => none }
def lapWaysRow : OpenClaim := { program := "ytfmpjljddfaggaa", sum := "86c9622d1ad0fdd5beb69300af81cf0ab2dba754fb045764794c593a35e3f113", func := "leverman/levermanlaw08.LapWays", spec := "lapWays", unfollowed := true, recurses := true, apart := false }
def LapWaysSaid : Prop := lapWaysRow.holds Try.pinned (OpenSpec.ofChange lapWaysSpec)

/-- ITS FALSE NEIGHBOUR: 'it returns false'. Refute it at one input. -/
def lapWaysWrong : ChangeSpec := { name := "lapWays", fn := fun _ => fun
  | [d1, d2] => { results := [.lit (.bool false)], args := [d1, d2] }
  | _ => none }
def LapWaysWrongFalsely : Prop := lapWaysRow.holds Try.pinned (OpenSpec.ofChange lapWaysWrong)

/-- 'levermanlaw08.LapLess': WHATEVER THE INPUT: true; the input reads as it did. -/
def lapLessSpec : ChangeSpec := { name := "lapLess", fn := fun _ => fun
  | [d1, d2, d3] => { results := [.lit (.bool true)], args := [d1, d2, d3] }
  | _ => none }
def lapLessRow : OpenClaim := { program := "ytfmpjljddfaggaa", sum := "86c9622d1ad0fdd5beb69300af81cf0ab2dba754fb045764794c593a35e3f113", func := "leverman/levermanlaw08.LapLess", spec := "lapLess", unfollowed := true, recurses := true, apart := false }
def LapLessSaid : Prop := lapLessRow.holds Try.pinned (OpenSpec.ofChange lapLessSpec)

/-- ITS FALSE NEIGHBOUR: 'it returns false'. Refute it at one input. -/
def lapLessWrong : ChangeSpec := { name := "lapLess", fn := fun _ => fun
  | [d1, d2, d3] => { results := [.lit (.bool false)], args := [d1, d2, d3] }
  | _ => none }
def LapLessWrongFalsely : Prop := lapLessRow.holds Try.pinned (OpenSpec.ofChange lapLessWrong)

/-- 'levermanlaw08.LapStops': WHATEVER THE INPUT: true; the input reads as it did. -/
def lapStopsSpec : ChangeSpec := { name := "lapStops", fn := fun _ => fun
  | [d1, d2] => { results := [.lit (.bool true)], args := [d1, d2] }
  | _ => none }
def lapStopsRow : OpenClaim := { program := "ytfmpjljddfaggaa", sum := "86c9622d1ad0fdd5beb69300af81cf0ab2dba754fb045764794c593a35e3f113", func := "leverman/levermanlaw08.LapStops", spec := "lapStops", unfollowed := true, recurses := true, apart := false }
def LapStopsSaid : Prop := lapStopsRow.holds Try.pinned (OpenSpec.ofChange lapStopsSpec)

/-- ITS FALSE NEIGHBOUR: 'it returns false'. Refute it at one input. -/
def lapStopsWrong : ChangeSpec := { name := "lapStops", fn := fun _ => fun
  | [d1, d2] => { results := [.lit (.bool false)], args := [d1, d2] }
  | _ => none }
def LapStopsWrongFalsely : Prop := lapStopsRow.holds Try.pinned (OpenSpec.ofChange lapStopsWrong)

/- THE SECOND FORM. 'bulk': how many values and letters a reading holds, each counted each time it is reached (what is shared counts as often as it is met; a slice's spare places count too). A statement '..UptoSaid' is the law's where the arguments, and the package variables that the reading takes, are together of bulk at most 1048576: NARROWER than '..Said'. Prove '..Said' where nothing that the law and all that it calls make is longer than what came in: it says more and counts as full. Else prove '..UptoSaid'. A law counts once. -/
mutual
def uptoBulk {H : Type} : DataW H → Nat
  | .lit (.string bytes) => bytes.length + 1
  | .lit _ => 1
  | .nil => 1
  | .ptr d => uptoBulk d + 1
  | .slice elems spare => uptoBulkAll elems + uptoBulkAll spare + 1
  | .agg parts => uptoBulkAll parts + 1
  | .iface _ d => uptoBulk d + 1
  | .map entries => uptoBulkEntries entries + 1
  | .held _ => 1
def uptoBulkAll {H : Type} : List (DataW H) → Nat
  | [] => 0
  | d :: r => uptoBulk d + uptoBulkAll r
def uptoBulkEntries {H : Type} : List (Lit × DataW H) → Nat
  | [] => 0
  | x :: r => uptoBulkEntry x + uptoBulkEntries r
def uptoBulkEntry {H : Type} : Lit × DataW H → Nat
  | (.string bytes, d) => bytes.length + uptoBulk d + 1
  | (_, d) => uptoBulk d + 1
 end
def uptoSmall : (H : Type) → List (DataW H) → Bool := fun _ ds => decide (uptoBulkAll ds ≤ 1048576)
def OpenSpec.upto (s : _root_.Go.ChangeSpec) : _root_.Go.OpenSpec := { _root_.Go.OpenSpec.ofChange s with cond := some uptoSmall }

/-- 'levermanlaw08.LapTells', WHERE WHAT IT READS IS OF BULK AT MOST 1048576: true; the input reads as it did. -/
def lapTellsUptoRow : OpenClaim := { program := "ytfmpjljddfaggaa", sum := "86c9622d1ad0fdd5beb69300af81cf0ab2dba754fb045764794c593a35e3f113", func := "leverman/levermanlaw08.LapTells", spec := "lapTells", unfollowed := true, recurses := true, apart := false, narrowed := true }
def LapTellsUptoSaid : Prop := lapTellsUptoRow.holds Try.pinned (OpenSpec.upto lapTellsSpec)

/-- 'levermanlaw08.LapWays', WHERE WHAT IT READS IS OF BULK AT MOST 1048576: true; the input reads as it did. -/
def lapWaysUptoRow : OpenClaim := { program := "ytfmpjljddfaggaa", sum := "86c9622d1ad0fdd5beb69300af81cf0ab2dba754fb045764794c593a35e3f113", func := "leverman/levermanlaw08.LapWays", spec := "lapWays", unfollowed := true, recurses := true, apart := false, narrowed := true }
def LapWaysUptoSaid : Prop := lapWaysUptoRow.holds Try.pinned (OpenSpec.upto lapWaysSpec)

/-- 'levermanlaw08.LapLess', WHERE WHAT IT READS IS OF BULK AT MOST 1048576: true; the input reads as it did. -/
def lapLessUptoRow : OpenClaim := { program := "ytfmpjljddfaggaa", sum := "86c9622d1ad0fdd5beb69300af81cf0ab2dba754fb045764794c593a35e3f113", func := "leverman/levermanlaw08.LapLess", spec := "lapLess", unfollowed := true, recurses := true, apart := false, narrowed := true }
def LapLessUptoSaid : Prop := lapLessUptoRow.holds Try.pinned (OpenSpec.upto lapLessSpec)

/-- 'levermanlaw08.LapStops', WHERE WHAT IT READS IS OF BULK AT MOST 1048576: true; the input reads as it did. -/
def lapStopsUptoRow : OpenClaim := { program := "ytfmpjljddfaggaa", sum := "86c9622d1ad0fdd5beb69300af81cf0ab2dba754fb045764794c593a35e3f113", func := "leverman/levermanlaw08.LapStops", spec := "lapStops", unfollowed := true, recurses := true, apart := false, narrowed := true }
def LapStopsUptoSaid : Prop := lapStopsUptoRow.holds Try.pinned (OpenSpec.upto lapStopsSpec)

end Rows
end Go.Proofs.Ytfmpjljddfaggaa
