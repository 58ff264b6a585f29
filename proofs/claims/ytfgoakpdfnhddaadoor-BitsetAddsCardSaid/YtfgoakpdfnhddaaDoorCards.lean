/-
  DERIVED. GIVEN WITH THE SEED: THE CARDS: each row of YtfgoakpdfnhddaaDoorRows.lean that lists a variable, with what it lists TIED to the program's text (the seventh form; the later family's looks); each row that meets fmt, with fmt's text TOLD by the authors' own Lean function (tested against real Go, not proved from fmt's source: count such statements apart). THE CARD IS WHAT COUNTS. Prove the row's statement (the work); the ties are given (YtfgoakpdfnhddaaDoorTie.lean); close each card by the builder's one call (the guide's Derived/Test/ToyasCard.lean, 'card_holds'). Laid BY PROGRAM, IN A SANDBOX (cutbox-door.mjs). By AI agents, Wed Nov 11 2026. No macro, syntax, notation, axiom, sorry.
-/
import Derived.Test.YtfgoakpdfnhddaaDoorRows
import GoSem.ClaimSeven
namespace Go.Proofs.YtfgoakpdfnhddaaDoor
namespace Rows

/-- THE TIED CARD OF 'levermanlaw13.BitsetTells'. -/
def bitsetTellsCard : Claim7 := { stood := { row := bitsetTellsRow, standIns := [], harness := (true, "bedc2caaf6cb88bf4f55104c69fbe0eb002800573bf70720f7e0564edc745b41"), looks := false }, kinds := [], alts := [], laidByText := true, laidKinds := [.data], laidTests := true, laidLooks := .later }
def BitsetTellsCardSaid : Prop := Claim7.holds Tryd.pinned (.plain (OpenSpec.ofChange bitsetTellsSpec)) bitsetTellsCard

/-- THE TIED CARD OF 'levermanlaw13.BitsetBack'. -/
def bitsetBackCard : Claim7 := { stood := { row := bitsetBackRow, standIns := [], harness := (true, "bedc2caaf6cb88bf4f55104c69fbe0eb002800573bf70720f7e0564edc745b41"), looks := false }, kinds := [], alts := [], laidByText := true, laidKinds := [.data], laidTests := true, laidLooks := .later }
def BitsetBackCardSaid : Prop := Claim7.holds Tryd.pinned (.plain (OpenSpec.ofChange bitsetBackSpec)) bitsetBackCard

/-- THE TIED CARD OF 'levermanlaw13.BitsetMeets'. -/
def bitsetMeetsCard : Claim7 := { stood := { row := bitsetMeetsRow, standIns := [], harness := (true, "bedc2caaf6cb88bf4f55104c69fbe0eb002800573bf70720f7e0564edc745b41"), looks := false }, kinds := [], alts := [], laidByText := true, laidKinds := [.data], laidTests := true, laidLooks := .later }
def BitsetMeetsCardSaid : Prop := Claim7.holds Tryd.pinned (.plain (OpenSpec.ofChange bitsetMeetsSpec)) bitsetMeetsCard

/-- THE TIED CARD OF 'levermanlaw13.BitsetAdds'. -/
def bitsetAddsCard : Claim7 := { stood := { row := bitsetAddsRow, standIns := [], harness := (true, "bedc2caaf6cb88bf4f55104c69fbe0eb002800573bf70720f7e0564edc745b41"), looks := false }, kinds := [], alts := [], laidByText := true, laidKinds := [.data], laidTests := true, laidLooks := .later }
def BitsetAddsCardSaid : Prop := Claim7.holds Tryd.pinned (.plain (OpenSpec.ofChange bitsetAddsSpec)) bitsetAddsCard

/-- THE SECOND FORM's CARD OF 'levermanlaw13.BitsetTells'. -/
def bitsetTellsUptoCard : Claim7 := { stood := { row := bitsetTellsUptoRow, standIns := [], harness := (true, "bedc2caaf6cb88bf4f55104c69fbe0eb002800573bf70720f7e0564edc745b41"), looks := false }, kinds := [], alts := [], laidByText := true, laidKinds := [.data], laidTests := true, laidLooks := .later }
def BitsetTellsUptoCardSaid : Prop := Claim7.holds Tryd.pinned (.plain (OpenSpec.upto bitsetTellsSpec)) bitsetTellsUptoCard

/-- THE SECOND FORM's CARD OF 'levermanlaw13.BitsetBack'. -/
def bitsetBackUptoCard : Claim7 := { stood := { row := bitsetBackUptoRow, standIns := [], harness := (true, "bedc2caaf6cb88bf4f55104c69fbe0eb002800573bf70720f7e0564edc745b41"), looks := false }, kinds := [], alts := [], laidByText := true, laidKinds := [.data], laidTests := true, laidLooks := .later }
def BitsetBackUptoCardSaid : Prop := Claim7.holds Tryd.pinned (.plain (OpenSpec.upto bitsetBackSpec)) bitsetBackUptoCard

/-- THE SECOND FORM's CARD OF 'levermanlaw13.BitsetMeets'. -/
def bitsetMeetsUptoCard : Claim7 := { stood := { row := bitsetMeetsUptoRow, standIns := [], harness := (true, "bedc2caaf6cb88bf4f55104c69fbe0eb002800573bf70720f7e0564edc745b41"), looks := false }, kinds := [], alts := [], laidByText := true, laidKinds := [.data], laidTests := true, laidLooks := .later }
def BitsetMeetsUptoCardSaid : Prop := Claim7.holds Tryd.pinned (.plain (OpenSpec.upto bitsetMeetsSpec)) bitsetMeetsUptoCard

/-- THE SECOND FORM's CARD OF 'levermanlaw13.BitsetAdds'. -/
def bitsetAddsUptoCard : Claim7 := { stood := { row := bitsetAddsUptoRow, standIns := [], harness := (true, "bedc2caaf6cb88bf4f55104c69fbe0eb002800573bf70720f7e0564edc745b41"), looks := false }, kinds := [], alts := [], laidByText := true, laidKinds := [.data], laidTests := true, laidLooks := .later }
def BitsetAddsUptoCardSaid : Prop := Claim7.holds Tryd.pinned (.plain (OpenSpec.upto bitsetAddsSpec)) bitsetAddsUptoCard
end Rows
end Go.Proofs.YtfgoakpdfnhddaaDoor
