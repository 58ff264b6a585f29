/-
  No cell of these rows narrows 'for every input' (looked for: loops, veiled, ifaces, maps, wideKeys, modest, calm, conditions, laid).
  DERIVED. THE GIVEN ROWS OF THIS SEAT. 3 by the template 'for every input the law returns true; each argument reads behind the call as it read before'; 0 by the template 'total and deterministic' (their statements: YtbmmcmdopekccaaTotals.lean).
  GIVEN WITH THE SEED: the statements are not yours to turn. If you find one false, say at which input.
  Laid BY PROGRAM, IN A SANDBOX (cutbox-rows.mjs): the forced cells as the released guide's own fill.sh prints them over the translation 0288eaefcde8e879… (all of the seat's roots in one cut). By AI agents, Wed Nov 11 2026. No macro, syntax, notation, axiom, sorry.
-/
import Derived.Test.YtbmmcmdopekccaaChecked
import GoSem.Claim
import GoSem.ClaimJoined
import GoSem.ClaimMapViews
import Derived.JoinedTies
import Derived.KernelRfl
namespace Go.Proofs.Ytbmmcmdopekccaa
/- THE CELL 'sum', in the pinned program and in every row, IS THE sha256 OF THE DUMP (.gsa) THAT YtbmmcmdopekccaaProg.lean LOADS. Nothing in Lean hashes anything: it is a label: what it is worth is what the hold of that sum in a sandbox is worth. -/
noncomputable def Try.pinned : Pinned := { name := "ytbmmcmdopekccaa", sum := "0288eaefcde8e879014bff85a7db123b8dc09e8813bc82457850109d7773f56c", checked := Try.checked }
namespace Rows
def none {H : Type} : Left H := { results := [], args := [] }

/-- 'levermanlaw14.ClashSides': WHATEVER THE INPUT: true; the input reads as it did. -/
def clashSidesSpec : ChangeSpec := { name := "clashSides", fn := fun _ => fun
  | [d] => { results := [.lit (.bool true)], args := [d] }
  | _ => none }
def clashSidesRow : OpenClaim := { program := "ytbmmcmdopekccaa", sum := "0288eaefcde8e879014bff85a7db123b8dc09e8813bc82457850109d7773f56c", func := "leverman/levermanlaw14.ClashSides", spec := "clashSides", unfollowed := true, recurses := true, apart := false }
def ClashSidesSaid : Prop := clashSidesRow.holds Try.pinned (OpenSpec.ofChange clashSidesSpec)

/-- ITS FALSE NEIGHBOUR: 'it returns false'. Refute it at one input. -/
def clashSidesWrong : ChangeSpec := { name := "clashSides", fn := fun _ => fun
  | [d] => { results := [.lit (.bool false)], args := [d] }
  | _ => none }
def ClashSidesWrongFalsely : Prop := clashSidesRow.holds Try.pinned (OpenSpec.ofChange clashSidesWrong)

/-- 'levermanlaw14.ClashRules': WHATEVER THE INPUT: true; the input reads as it did. -/
def clashRulesSpec : ChangeSpec := { name := "clashRules", fn := fun _ => fun
  | [d] => { results := [.lit (.bool true)], args := [d] }
  | _ => none }
def clashRulesRow : OpenClaim := { program := "ytbmmcmdopekccaa", sum := "0288eaefcde8e879014bff85a7db123b8dc09e8813bc82457850109d7773f56c", func := "leverman/levermanlaw14.ClashRules", spec := "clashRules", unfollowed := true, recurses := true, apart := false }
def ClashRulesSaid : Prop := clashRulesRow.holds Try.pinned (OpenSpec.ofChange clashRulesSpec)

/-- ITS FALSE NEIGHBOUR: 'it returns false'. Refute it at one input. -/
def clashRulesWrong : ChangeSpec := { name := "clashRules", fn := fun _ => fun
  | [d] => { results := [.lit (.bool false)], args := [d] }
  | _ => none }
def ClashRulesWrongFalsely : Prop := clashRulesRow.holds Try.pinned (OpenSpec.ofChange clashRulesWrong)

/-- 'levermanlaw14.ClashTurns': WHATEVER THE INPUT: true; the input reads as it did. -/
def clashTurnsSpec : ChangeSpec := { name := "clashTurns", fn := fun _ => fun
  | [d] => { results := [.lit (.bool true)], args := [d] }
  | _ => none }
def clashTurnsRow : OpenClaim := { program := "ytbmmcmdopekccaa", sum := "0288eaefcde8e879014bff85a7db123b8dc09e8813bc82457850109d7773f56c", func := "leverman/levermanlaw14.ClashTurns", spec := "clashTurns", unfollowed := true, recurses := true, apart := false }
def ClashTurnsSaid : Prop := clashTurnsRow.holds Try.pinned (OpenSpec.ofChange clashTurnsSpec)

/-- ITS FALSE NEIGHBOUR: 'it returns false'. Refute it at one input. -/
def clashTurnsWrong : ChangeSpec := { name := "clashTurns", fn := fun _ => fun
  | [d] => { results := [.lit (.bool false)], args := [d] }
  | _ => none }
def ClashTurnsWrongFalsely : Prop := clashTurnsRow.holds Try.pinned (OpenSpec.ofChange clashTurnsWrong)

/- THE SECOND FORM. 'bulk': how many values and letters a reading holds, each counted each time it is reached (what is shared counts as often as it is met; a slice's spare places count too). A statement '..UptoSaid' is the law's where the arguments, and the package variables that the reading takes, are together of bulk at most 1048576: NARROWER than '..Said'. Prove '..Said' where nothing that the law and all that it calls make is longer than what came in: it says more and counts as full. Else prove '..UptoSaid'. A law counts once. -/
mutual
def uptoBulk {H : Type} : DataW H → Nat
  | .lit (.string bytes) => bytes.length + 1
  | .lit _ => 1
  | .nil => 1
  | .ptr d => uptoBulk d + 1
  | .slice elems spare => uptoBulkAll elems + uptoBulkAll spare + 1
  | .agg parts => uptoBulkAll parts + 1
  | .iface _ d => uptoBulk d + 1
  | .map entries => uptoBulkEntries entries + 1
  | .held _ => 1
def uptoBulkAll {H : Type} : List (DataW H) → Nat
  | [] => 0
  | d :: r => uptoBulk d + uptoBulkAll r
def uptoBulkEntries {H : Type} : List (Lit × DataW H) → Nat
  | [] => 0
  | x :: r => uptoBulkEntry x + uptoBulkEntries r
def uptoBulkEntry {H : Type} : Lit × DataW H → Nat
  | (.string bytes, d) => bytes.length + uptoBulk d + 1
  | (_, d) => uptoBulk d + 1
 end
def uptoSmall : (H : Type) → List (DataW H) → Bool := fun _ ds => decide (uptoBulkAll ds ≤ 1048576)
def OpenSpec.upto (s : _root_.Go.ChangeSpec) : _root_.Go.OpenSpec := { _root_.Go.OpenSpec.ofChange s with cond := some uptoSmall }

/-- 'levermanlaw14.ClashSides', WHERE WHAT IT READS IS OF BULK AT MOST 1048576: true; the input reads as it did. -/
def clashSidesUptoRow : OpenClaim := { program := "ytbmmcmdopekccaa", sum := "0288eaefcde8e879014bff85a7db123b8dc09e8813bc82457850109d7773f56c", func := "leverman/levermanlaw14.ClashSides", spec := "clashSides", unfollowed := true, recurses := true, apart := false, narrowed := true }
def ClashSidesUptoSaid : Prop := clashSidesUptoRow.holds Try.pinned (OpenSpec.upto clashSidesSpec)

/-- 'levermanlaw14.ClashRules', WHERE WHAT IT READS IS OF BULK AT MOST 1048576: true; the input reads as it did. -/
def clashRulesUptoRow : OpenClaim := { program := "ytbmmcmdopekccaa", sum := "0288eaefcde8e879014bff85a7db123b8dc09e8813bc82457850109d7773f56c", func := "leverman/levermanlaw14.ClashRules", spec := "clashRules", unfollowed := true, recurses := true, apart := false, narrowed := true }
def ClashRulesUptoSaid : Prop := clashRulesUptoRow.holds Try.pinned (OpenSpec.upto clashRulesSpec)

/-- 'levermanlaw14.ClashTurns', WHERE WHAT IT READS IS OF BULK AT MOST 1048576: true; the input reads as it did. -/
def clashTurnsUptoRow : OpenClaim := { program := "ytbmmcmdopekccaa", sum := "0288eaefcde8e879014bff85a7db123b8dc09e8813bc82457850109d7773f56c", func := "leverman/levermanlaw14.ClashTurns", spec := "clashTurns", unfollowed := true, recurses := true, apart := false, narrowed := true }
def ClashTurnsUptoSaid : Prop := clashTurnsUptoRow.holds Try.pinned (OpenSpec.upto clashTurnsSpec)

end Rows
end Go.Proofs.Ytbmmcmdopekccaa
