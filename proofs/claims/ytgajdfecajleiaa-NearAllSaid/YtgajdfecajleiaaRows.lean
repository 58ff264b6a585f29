/-
  No cell of these rows narrows 'for every input' (looked for: loops, veiled, ifaces, maps, wideKeys, modest, calm, conditions, laid).
  DERIVED. THE GIVEN ROWS OF THIS SEAT. 4 by the template 'for every input the law returns true; each argument reads behind the call as it read before'; 0 by the template 'total and deterministic' (their statements: YtgajdfecajleiaaTotals.lean).
  GIVEN WITH THE SEED: the statements are not yours to turn. If you find one false, say at which input.
  Laid BY PROGRAM, IN A SANDBOX (cutbox-rows.mjs): the forced cells as the released guide's own fill.sh prints them over the translation 94c41a997fa06ea6… (all of the seat's roots in one cut). By AI agents, Wed Nov 11 2026. No macro, syntax, notation, axiom, sorry.
-/
import Derived.Test.YtgajdfecajleiaaChecked
import GoSem.Claim
import GoSem.ClaimJoined
import GoSem.ClaimMapViews
import Derived.JoinedTies
import Derived.KernelRfl
namespace Go.Proofs.Ytgajdfecajleiaa
/- THE CELL 'sum', in the pinned program and in every row, IS THE sha256 OF THE DUMP (.gsa) THAT YtgajdfecajleiaaProg.lean LOADS. Nothing in Lean hashes anything: it is a label: what it is worth is what the hold of that sum in a sandbox is worth. -/
noncomputable def Try.pinned : Pinned := { name := "ytgajdfecajleiaa", sum := "94c41a997fa06ea61cbf17892231cd1d6b7a7b2d8b2a78397c24a785c1a63830", checked := Try.checked }
namespace Rows
def none {H : Type} : Left H := { results := [], args := [] }

/-- 'levermanlaw11.NearTells': WHATEVER THE INPUT: true; the input reads as it did. -/
def nearTellsSpec : ChangeSpec := { name := "nearTells", fn := fun _ => fun
  | [d1, d2] => { results := [.lit (.bool true)], args := [d1, d2] }
  | _ => none }
def nearTellsRow : OpenClaim := { program := "ytgajdfecajleiaa", sum := "94c41a997fa06ea61cbf17892231cd1d6b7a7b2d8b2a78397c24a785c1a63830", func := "leverman/levermanlaw11.NearTells", spec := "nearTells", recurses := true, apart := false }
def NearTellsSaid : Prop := nearTellsRow.holds Try.pinned (OpenSpec.ofChange nearTellsSpec)

/-- ITS FALSE NEIGHBOUR: 'it returns false'. Refute it at one input. -/
def nearTellsWrong : ChangeSpec := { name := "nearTells", fn := fun _ => fun
  | [d1, d2] => { results := [.lit (.bool false)], args := [d1, d2] }
  | _ => none }
def NearTellsWrongFalsely : Prop := nearTellsRow.holds Try.pinned (OpenSpec.ofChange nearTellsWrong)

/-- 'levermanlaw11.NearGrows': WHATEVER THE INPUT: true; the input reads as it did. -/
def nearGrowsSpec : ChangeSpec := { name := "nearGrows", fn := fun _ => fun
  | [d1, d2, d3] => { results := [.lit (.bool true)], args := [d1, d2, d3] }
  | _ => none }
def nearGrowsRow : OpenClaim := { program := "ytgajdfecajleiaa", sum := "94c41a997fa06ea61cbf17892231cd1d6b7a7b2d8b2a78397c24a785c1a63830", func := "leverman/levermanlaw11.NearGrows", spec := "nearGrows", recurses := true, apart := false }
def NearGrowsSaid : Prop := nearGrowsRow.holds Try.pinned (OpenSpec.ofChange nearGrowsSpec)

/-- ITS FALSE NEIGHBOUR: 'it returns false'. Refute it at one input. -/
def nearGrowsWrong : ChangeSpec := { name := "nearGrows", fn := fun _ => fun
  | [d1, d2, d3] => { results := [.lit (.bool false)], args := [d1, d2, d3] }
  | _ => none }
def NearGrowsWrongFalsely : Prop := nearGrowsRow.holds Try.pinned (OpenSpec.ofChange nearGrowsWrong)

/-- 'levermanlaw11.NearReaches': WHATEVER THE INPUT: true; the input reads as it did. -/
def nearReachesSpec : ChangeSpec := { name := "nearReaches", fn := fun _ => fun
  | [d1, d2] => { results := [.lit (.bool true)], args := [d1, d2] }
  | _ => none }
def nearReachesRow : OpenClaim := { program := "ytgajdfecajleiaa", sum := "94c41a997fa06ea61cbf17892231cd1d6b7a7b2d8b2a78397c24a785c1a63830", func := "leverman/levermanlaw11.NearReaches", spec := "nearReaches", recurses := true, apart := false }
def NearReachesSaid : Prop := nearReachesRow.holds Try.pinned (OpenSpec.ofChange nearReachesSpec)

/-- ITS FALSE NEIGHBOUR: 'it returns false'. Refute it at one input. -/
def nearReachesWrong : ChangeSpec := { name := "nearReaches", fn := fun _ => fun
  | [d1, d2] => { results := [.lit (.bool false)], args := [d1, d2] }
  | _ => none }
def NearReachesWrongFalsely : Prop := nearReachesRow.holds Try.pinned (OpenSpec.ofChange nearReachesWrong)

/-- 'levermanlaw11.NearAll': WHATEVER THE INPUT: true; the input reads as it did. -/
def nearAllSpec : ChangeSpec := { name := "nearAll", fn := fun _ => fun
  | [d1, d2] => { results := [.lit (.bool true)], args := [d1, d2] }
  | _ => none }
def nearAllRow : OpenClaim := { program := "ytgajdfecajleiaa", sum := "94c41a997fa06ea61cbf17892231cd1d6b7a7b2d8b2a78397c24a785c1a63830", func := "leverman/levermanlaw11.NearAll", spec := "nearAll", recurses := true, apart := false }
def NearAllSaid : Prop := nearAllRow.holds Try.pinned (OpenSpec.ofChange nearAllSpec)

/-- ITS FALSE NEIGHBOUR: 'it returns false'. Refute it at one input. -/
def nearAllWrong : ChangeSpec := { name := "nearAll", fn := fun _ => fun
  | [d1, d2] => { results := [.lit (.bool false)], args := [d1, d2] }
  | _ => none }
def NearAllWrongFalsely : Prop := nearAllRow.holds Try.pinned (OpenSpec.ofChange nearAllWrong)

/- THE SECOND FORM. 'bulk': how many values and letters a reading holds, each counted each time it is reached (what is shared counts as often as it is met; a slice's spare places count too). A statement '..UptoSaid' is the law's where the arguments, and the package variables that the reading takes, are together of bulk at most 1048576: NARROWER than '..Said'. Prove '..Said' where nothing that the law and all that it calls make is longer than what came in: it says more and counts as full. Else prove '..UptoSaid'. A law counts once. -/
mutual
def uptoBulk {H : Type} : DataW H → Nat
  | .lit (.string bytes) => bytes.length + 1
  | .lit _ => 1
  | .nil => 1
  | .ptr d => uptoBulk d + 1
  | .slice elems spare => uptoBulkAll elems + uptoBulkAll spare + 1
  | .agg parts => uptoBulkAll parts + 1
  | .iface _ d => uptoBulk d + 1
  | .map entries => uptoBulkEntries entries + 1
  | .held _ => 1
def uptoBulkAll {H : Type} : List (DataW H) → Nat
  | [] => 0
  | d :: r => uptoBulk d + uptoBulkAll r
def uptoBulkEntries {H : Type} : List (Lit × DataW H) → Nat
  | [] => 0
  | x :: r => uptoBulkEntry x + uptoBulkEntries r
def uptoBulkEntry {H : Type} : Lit × DataW H → Nat
  | (.string bytes, d) => bytes.length + uptoBulk d + 1
  | (_, d) => uptoBulk d + 1
 end
def uptoSmall : (H : Type) → List (DataW H) → Bool := fun _ ds => decide (uptoBulkAll ds ≤ 1048576)
def OpenSpec.upto (s : _root_.Go.ChangeSpec) : _root_.Go.OpenSpec := { _root_.Go.OpenSpec.ofChange s with cond := some uptoSmall }

/-- 'levermanlaw11.NearTells', WHERE WHAT IT READS IS OF BULK AT MOST 1048576: true; the input reads as it did. -/
def nearTellsUptoRow : OpenClaim := { program := "ytgajdfecajleiaa", sum := "94c41a997fa06ea61cbf17892231cd1d6b7a7b2d8b2a78397c24a785c1a63830", func := "leverman/levermanlaw11.NearTells", spec := "nearTells", recurses := true, apart := false, narrowed := true }
def NearTellsUptoSaid : Prop := nearTellsUptoRow.holds Try.pinned (OpenSpec.upto nearTellsSpec)

/-- 'levermanlaw11.NearGrows', WHERE WHAT IT READS IS OF BULK AT MOST 1048576: true; the input reads as it did. -/
def nearGrowsUptoRow : OpenClaim := { program := "ytgajdfecajleiaa", sum := "94c41a997fa06ea61cbf17892231cd1d6b7a7b2d8b2a78397c24a785c1a63830", func := "leverman/levermanlaw11.NearGrows", spec := "nearGrows", recurses := true, apart := false, narrowed := true }
def NearGrowsUptoSaid : Prop := nearGrowsUptoRow.holds Try.pinned (OpenSpec.upto nearGrowsSpec)

/-- 'levermanlaw11.NearReaches', WHERE WHAT IT READS IS OF BULK AT MOST 1048576: true; the input reads as it did. -/
def nearReachesUptoRow : OpenClaim := { program := "ytgajdfecajleiaa", sum := "94c41a997fa06ea61cbf17892231cd1d6b7a7b2d8b2a78397c24a785c1a63830", func := "leverman/levermanlaw11.NearReaches", spec := "nearReaches", recurses := true, apart := false, narrowed := true }
def NearReachesUptoSaid : Prop := nearReachesUptoRow.holds Try.pinned (OpenSpec.upto nearReachesSpec)

/-- 'levermanlaw11.NearAll', WHERE WHAT IT READS IS OF BULK AT MOST 1048576: true; the input reads as it did. -/
def nearAllUptoRow : OpenClaim := { program := "ytgajdfecajleiaa", sum := "94c41a997fa06ea61cbf17892231cd1d6b7a7b2d8b2a78397c24a785c1a63830", func := "leverman/levermanlaw11.NearAll", spec := "nearAll", recurses := true, apart := false, narrowed := true }
def NearAllUptoSaid : Prop := nearAllUptoRow.holds Try.pinned (OpenSpec.upto nearAllSpec)

end Rows
end Go.Proofs.Ytgajdfecajleiaa
