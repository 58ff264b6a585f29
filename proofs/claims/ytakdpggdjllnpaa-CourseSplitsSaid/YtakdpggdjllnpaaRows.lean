/-
  No cell of these rows narrows 'for every input' (looked for: loops, veiled, ifaces, maps, wideKeys, modest, calm, conditions, laid).
  DERIVED. THE GIVEN ROWS OF THIS SEAT. 4 by the template 'for every input the law returns true; each argument reads behind the call as it read before'; 0 by the template 'total and deterministic' (their statements: YtakdpggdjllnpaaTotals.lean).
  GIVEN WITH THE SEED: the statements are not yours to turn. If you find one false, say at which input.
  Laid BY PROGRAM, IN A SANDBOX (cutbox-rows.mjs): the forced cells as the released guide's own fill.sh prints them over the translation ea8ff21fd23c2387… (all of the seat's roots in one cut). By AI agents, Wed Nov 11 2026. No macro, syntax, notation, axiom, sorry.
-/
import Derived.Test.YtakdpggdjllnpaaChecked
import GoSem.Claim
import GoSem.ClaimJoined
import GoSem.ClaimMapViews
import Derived.JoinedTies
import Derived.KernelRfl
namespace Go.Proofs.Ytakdpggdjllnpaa
/- THE CELL 'sum', in the pinned program and in every row, IS THE sha256 OF THE DUMP (.gsa) THAT YtakdpggdjllnpaaProg.lean LOADS. Nothing in Lean hashes anything: it is a label: what it is worth is what the hold of that sum in a sandbox is worth. -/
noncomputable def Try.pinned : Pinned := { name := "ytakdpggdjllnpaa", sum := "ea8ff21fd23c2387112a172baa9207c7dab539e545a3b3e26ebc18e83788960f", checked := Try.checked }
namespace Rows
def none {H : Type} : Left H := { results := [], args := [] }

/-- 'levermanlaw07.CourseTells': WHATEVER THE INPUT: true; the input reads as it did. -/
def courseTellsSpec : ChangeSpec := { name := "courseTells", fn := fun _ => fun
  | [d1, d2] => { results := [.lit (.bool true)], args := [d1, d2] }
  | _ => none }
def courseTellsRow : OpenClaim := { program := "ytakdpggdjllnpaa", sum := "ea8ff21fd23c2387112a172baa9207c7dab539e545a3b3e26ebc18e83788960f", func := "leverman/levermanlaw07.CourseTells", spec := "courseTells", unfollowed := true, recurses := true, apart := false }
def CourseTellsSaid : Prop := courseTellsRow.holds Try.pinned (OpenSpec.ofChange courseTellsSpec)

/-- ITS FALSE NEIGHBOUR: 'it returns false'. Refute it at one input. -/
def courseTellsWrong : ChangeSpec := { name := "courseTells", fn := fun _ => fun
  | [d1, d2] => { results := [.lit (.bool false)], args := [d1, d2] }
  | _ => none }
def CourseTellsWrongFalsely : Prop := courseTellsRow.holds Try.pinned (OpenSpec.ofChange courseTellsWrong)

/-- 'levermanlaw07.CourseWays': WHATEVER THE INPUT: true; the input reads as it did. -/
def courseWaysSpec : ChangeSpec := { name := "courseWays", fn := fun _ => fun
  | [d1, d2] => { results := [.lit (.bool true)], args := [d1, d2] }
  | _ => none }
def courseWaysRow : OpenClaim := { program := "ytakdpggdjllnpaa", sum := "ea8ff21fd23c2387112a172baa9207c7dab539e545a3b3e26ebc18e83788960f", func := "leverman/levermanlaw07.CourseWays", spec := "courseWays", unfollowed := true, recurses := true, apart := false }
def CourseWaysSaid : Prop := courseWaysRow.holds Try.pinned (OpenSpec.ofChange courseWaysSpec)

/-- ITS FALSE NEIGHBOUR: 'it returns false'. Refute it at one input. -/
def courseWaysWrong : ChangeSpec := { name := "courseWays", fn := fun _ => fun
  | [d1, d2] => { results := [.lit (.bool false)], args := [d1, d2] }
  | _ => none }
def CourseWaysWrongFalsely : Prop := courseWaysRow.holds Try.pinned (OpenSpec.ofChange courseWaysWrong)

/-- 'levermanlaw07.CourseApart': WHATEVER THE INPUT: true; the input reads as it did. -/
def courseApartSpec : ChangeSpec := { name := "courseApart", fn := fun _ => fun
  | [d1, d2] => { results := [.lit (.bool true)], args := [d1, d2] }
  | _ => none }
def courseApartRow : OpenClaim := { program := "ytakdpggdjllnpaa", sum := "ea8ff21fd23c2387112a172baa9207c7dab539e545a3b3e26ebc18e83788960f", func := "leverman/levermanlaw07.CourseApart", spec := "courseApart", unfollowed := true, recurses := true, apart := false }
def CourseApartSaid : Prop := courseApartRow.holds Try.pinned (OpenSpec.ofChange courseApartSpec)

/-- ITS FALSE NEIGHBOUR: 'it returns false'. Refute it at one input. -/
def courseApartWrong : ChangeSpec := { name := "courseApart", fn := fun _ => fun
  | [d1, d2] => { results := [.lit (.bool false)], args := [d1, d2] }
  | _ => none }
def CourseApartWrongFalsely : Prop := courseApartRow.holds Try.pinned (OpenSpec.ofChange courseApartWrong)

/-- 'levermanlaw07.CourseSplits': WHATEVER THE INPUT: true; the input reads as it did. -/
def courseSplitsSpec : ChangeSpec := { name := "courseSplits", fn := fun _ => fun
  | [d1, d2] => { results := [.lit (.bool true)], args := [d1, d2] }
  | _ => none }
def courseSplitsRow : OpenClaim := { program := "ytakdpggdjllnpaa", sum := "ea8ff21fd23c2387112a172baa9207c7dab539e545a3b3e26ebc18e83788960f", func := "leverman/levermanlaw07.CourseSplits", spec := "courseSplits", unfollowed := true, recurses := true, apart := false }
def CourseSplitsSaid : Prop := courseSplitsRow.holds Try.pinned (OpenSpec.ofChange courseSplitsSpec)

/-- ITS FALSE NEIGHBOUR: 'it returns false'. Refute it at one input. -/
def courseSplitsWrong : ChangeSpec := { name := "courseSplits", fn := fun _ => fun
  | [d1, d2] => { results := [.lit (.bool false)], args := [d1, d2] }
  | _ => none }
def CourseSplitsWrongFalsely : Prop := courseSplitsRow.holds Try.pinned (OpenSpec.ofChange courseSplitsWrong)

/- THE SECOND FORM. 'bulk': how many values and letters a reading holds, each counted each time it is reached (what is shared counts as often as it is met; a slice's spare places count too). A statement '..UptoSaid' is the law's where the arguments, and the package variables that the reading takes, are together of bulk at most 1048576: NARROWER than '..Said'. Prove '..Said' where nothing that the law and all that it calls make is longer than what came in: it says more and counts as full. Else prove '..UptoSaid'. A law counts once. -/
mutual
def uptoBulk {H : Type} : DataW H → Nat
  | .lit (.string bytes) => bytes.length + 1
  | .lit _ => 1
  | .nil => 1
  | .ptr d => uptoBulk d + 1
  | .slice elems spare => uptoBulkAll elems + uptoBulkAll spare + 1
  | .agg parts => uptoBulkAll parts + 1
  | .iface _ d => uptoBulk d + 1
  | .map entries => uptoBulkEntries entries + 1
  | .held _ => 1
def uptoBulkAll {H : Type} : List (DataW H) → Nat
  | [] => 0
  | d :: r => uptoBulk d + uptoBulkAll r
def uptoBulkEntries {H : Type} : List (Lit × DataW H) → Nat
  | [] => 0
  | x :: r => uptoBulkEntry x + uptoBulkEntries r
def uptoBulkEntry {H : Type} : Lit × DataW H → Nat
  | (.string bytes, d) => bytes.length + uptoBulk d + 1
  | (_, d) => uptoBulk d + 1
 end
def uptoSmall : (H : Type) → List (DataW H) → Bool := fun _ ds => decide (uptoBulkAll ds ≤ 1048576)
def OpenSpec.upto (s : _root_.Go.ChangeSpec) : _root_.Go.OpenSpec := { _root_.Go.OpenSpec.ofChange s with cond := some uptoSmall }

/-- 'levermanlaw07.CourseTells', WHERE WHAT IT READS IS OF BULK AT MOST 1048576: true; the input reads as it did. -/
def courseTellsUptoRow : OpenClaim := { program := "ytakdpggdjllnpaa", sum := "ea8ff21fd23c2387112a172baa9207c7dab539e545a3b3e26ebc18e83788960f", func := "leverman/levermanlaw07.CourseTells", spec := "courseTells", unfollowed := true, recurses := true, apart := false, narrowed := true }
def CourseTellsUptoSaid : Prop := courseTellsUptoRow.holds Try.pinned (OpenSpec.upto courseTellsSpec)

/-- 'levermanlaw07.CourseWays', WHERE WHAT IT READS IS OF BULK AT MOST 1048576: true; the input reads as it did. -/
def courseWaysUptoRow : OpenClaim := { program := "ytakdpggdjllnpaa", sum := "ea8ff21fd23c2387112a172baa9207c7dab539e545a3b3e26ebc18e83788960f", func := "leverman/levermanlaw07.CourseWays", spec := "courseWays", unfollowed := true, recurses := true, apart := false, narrowed := true }
def CourseWaysUptoSaid : Prop := courseWaysUptoRow.holds Try.pinned (OpenSpec.upto courseWaysSpec)

/-- 'levermanlaw07.CourseApart', WHERE WHAT IT READS IS OF BULK AT MOST 1048576: true; the input reads as it did. -/
def courseApartUptoRow : OpenClaim := { program := "ytakdpggdjllnpaa", sum := "ea8ff21fd23c2387112a172baa9207c7dab539e545a3b3e26ebc18e83788960f", func := "leverman/levermanlaw07.CourseApart", spec := "courseApart", unfollowed := true, recurses := true, apart := false, narrowed := true }
def CourseApartUptoSaid : Prop := courseApartUptoRow.holds Try.pinned (OpenSpec.upto courseApartSpec)

/-- 'levermanlaw07.CourseSplits', WHERE WHAT IT READS IS OF BULK AT MOST 1048576: true; the input reads as it did. -/
def courseSplitsUptoRow : OpenClaim := { program := "ytakdpggdjllnpaa", sum := "ea8ff21fd23c2387112a172baa9207c7dab539e545a3b3e26ebc18e83788960f", func := "leverman/levermanlaw07.CourseSplits", spec := "courseSplits", unfollowed := true, recurses := true, apart := false, narrowed := true }
def CourseSplitsUptoSaid : Prop := courseSplitsUptoRow.holds Try.pinned (OpenSpec.upto courseSplitsSpec)

end Rows
end Go.Proofs.Ytakdpggdjllnpaa
