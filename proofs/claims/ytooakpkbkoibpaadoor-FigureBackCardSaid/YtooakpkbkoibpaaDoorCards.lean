/-
  DERIVED. GIVEN WITH THE SEED: THE CARDS: each row of YtooakpkbkoibpaaDoorRows.lean that lists a variable, with what it lists TIED to the program's text (the seventh form; the later family's looks); each row that meets fmt, with fmt's text TOLD by the authors' own Lean function (tested against real Go, not proved from fmt's source: count such statements apart). THE CARD IS WHAT COUNTS. Prove the row's statement (the work); the ties are given (YtooakpkbkoibpaaDoorTie.lean); close each card by the builder's one call (the guide's Derived/Test/ToyasCard.lean, 'card_holds'). Laid BY PROGRAM, IN A SANDBOX (cutbox-door.mjs). By AI agents, Wed Nov 11 2026. No macro, syntax, notation, axiom, sorry.
-/
import Derived.Test.YtooakpkbkoibpaaDoorRows
import GoSem.ClaimSeven
namespace Go.Proofs.YtooakpkbkoibpaaDoor
namespace Rows

/-- THE TIED CARD OF 'levermanlaw01.FigureTells'. -/
def figureTellsCard : Claim7 := { stood := { row := figureTellsRow, standIns := [], harness := (true, "e91ff8decf36bbfe792337e2a1942bcc95bf496121d31068e929f65b8478877b"), looks := false }, kinds := [], alts := [], laidByText := true, laidKinds := [.data, .data, .data], laidTests := true, laidLooks := .later }
def FigureTellsCardSaid : Prop := Claim7.holds Tryd.pinned (.plain (OpenSpec.ofChange figureTellsSpec)) figureTellsCard

/-- THE TIED CARD OF 'levermanlaw01.FigureBack'. -/
def figureBackCard : Claim7 := { stood := { row := figureBackRow, standIns := [], harness := (true, "e91ff8decf36bbfe792337e2a1942bcc95bf496121d31068e929f65b8478877b"), looks := false }, kinds := [], alts := [], laidByText := true, laidKinds := [.data, .data, .data], laidTests := true, laidLooks := .later }
def FigureBackCardSaid : Prop := Claim7.holds Tryd.pinned (.plain (OpenSpec.ofChange figureBackSpec)) figureBackCard

/-- THE TIED CARD OF 'levermanlaw01.FigureNames'. -/
def figureNamesCard : Claim7 := { stood := { row := figureNamesRow, standIns := [], harness := (true, "e91ff8decf36bbfe792337e2a1942bcc95bf496121d31068e929f65b8478877b"), looks := false }, kinds := [], alts := [], laidByText := true, laidKinds := [.data, .data, .data], laidTests := true, laidLooks := .later }
def FigureNamesCardSaid : Prop := Claim7.holds Tryd.pinned (.plain (OpenSpec.ofChange figureNamesSpec)) figureNamesCard

/-- THE TIED CARD OF 'levermanlaw01.FigureForms'. -/
def figureFormsCard : Claim7 := { stood := { row := figureFormsRow, standIns := [], harness := (true, "e91ff8decf36bbfe792337e2a1942bcc95bf496121d31068e929f65b8478877b"), looks := false }, kinds := [], alts := [], laidByText := true, laidKinds := [.data, .data, .data], laidTests := true, laidLooks := .later }
def FigureFormsCardSaid : Prop := Claim7.holds Tryd.pinned (.plain (OpenSpec.ofChange figureFormsSpec)) figureFormsCard

/-- THE SECOND FORM's CARD OF 'levermanlaw01.FigureTells'. -/
def figureTellsUptoCard : Claim7 := { stood := { row := figureTellsUptoRow, standIns := [], harness := (true, "e91ff8decf36bbfe792337e2a1942bcc95bf496121d31068e929f65b8478877b"), looks := false }, kinds := [], alts := [], laidByText := true, laidKinds := [.data, .data, .data], laidTests := true, laidLooks := .later }
def FigureTellsUptoCardSaid : Prop := Claim7.holds Tryd.pinned (.plain (OpenSpec.upto figureTellsSpec)) figureTellsUptoCard

/-- THE SECOND FORM's CARD OF 'levermanlaw01.FigureBack'. -/
def figureBackUptoCard : Claim7 := { stood := { row := figureBackUptoRow, standIns := [], harness := (true, "e91ff8decf36bbfe792337e2a1942bcc95bf496121d31068e929f65b8478877b"), looks := false }, kinds := [], alts := [], laidByText := true, laidKinds := [.data, .data, .data], laidTests := true, laidLooks := .later }
def FigureBackUptoCardSaid : Prop := Claim7.holds Tryd.pinned (.plain (OpenSpec.upto figureBackSpec)) figureBackUptoCard

/-- THE SECOND FORM's CARD OF 'levermanlaw01.FigureNames'. -/
def figureNamesUptoCard : Claim7 := { stood := { row := figureNamesUptoRow, standIns := [], harness := (true, "e91ff8decf36bbfe792337e2a1942bcc95bf496121d31068e929f65b8478877b"), looks := false }, kinds := [], alts := [], laidByText := true, laidKinds := [.data, .data, .data], laidTests := true, laidLooks := .later }
def FigureNamesUptoCardSaid : Prop := Claim7.holds Tryd.pinned (.plain (OpenSpec.upto figureNamesSpec)) figureNamesUptoCard

/-- THE SECOND FORM's CARD OF 'levermanlaw01.FigureForms'. -/
def figureFormsUptoCard : Claim7 := { stood := { row := figureFormsUptoRow, standIns := [], harness := (true, "e91ff8decf36bbfe792337e2a1942bcc95bf496121d31068e929f65b8478877b"), looks := false }, kinds := [], alts := [], laidByText := true, laidKinds := [.data, .data, .data], laidTests := true, laidLooks := .later }
def FigureFormsUptoCardSaid : Prop := Claim7.holds Tryd.pinned (.plain (OpenSpec.upto figureFormsSpec)) figureFormsUptoCard
end Rows
end Go.Proofs.YtooakpkbkoibpaaDoor
