/-
  DERIVED. GIVEN WITH THE SEED: THE CARDS: each row of YtmddabemnjlniaaDoorRows.lean that lists a variable, with what it lists TIED to the program's text (the seventh form; the later family's looks); each row that meets fmt, with fmt's text TOLD by the authors' own Lean function (tested against real Go, not proved from fmt's source: count such statements apart). THE CARD IS WHAT COUNTS. Prove the row's statement (the work); the ties are given (YtmddabemnjlniaaDoorTie.lean); close each card by the builder's one call (the guide's Derived/Test/ToyasCard.lean, 'card_holds'). Laid BY PROGRAM, IN A SANDBOX (cutbox-door.mjs). By AI agents, Wed Nov 11 2026. No macro, syntax, notation, axiom, sorry.
-/
import Derived.Test.YtmddabemnjlniaaDoorRows
import GoSem.ClaimSeven
namespace Go.Proofs.YtmddabemnjlniaaDoor
namespace Rows

/-- THE TIED CARD OF 'levermanlaw03.ItemTells'. -/
def itemTellsCard : Claim7 := { stood := { row := itemTellsRow, standIns := [], harness := (true, "9aaa91c1117cb2a8186d1be4b746d0255fc9c1961307c795a28e9113d6421681"), looks := false }, kinds := [], alts := [], laidByText := true, laidKinds := [.data, .data, .data, .data, .pinned], laidTests := true, laidLooks := .later }
def ItemTellsCardSaid : Prop := Claim7.holds Tryd.pinned (.plain (OpenSpec.ofChange itemTellsSpec)) itemTellsCard

/-- THE TIED CARD OF 'levermanlaw03.ItemParses'. -/
def itemParsesCard : Claim7 := { stood := { row := itemParsesRow, standIns := [], harness := (true, "9aaa91c1117cb2a8186d1be4b746d0255fc9c1961307c795a28e9113d6421681"), looks := false }, kinds := [], alts := [], laidByText := true, laidKinds := [.data, .data, .data, .data, .pinned], laidTests := true, laidLooks := .later }
def ItemParsesCardSaid : Prop := Claim7.holds Tryd.pinned (.plain (OpenSpec.ofChange itemParsesSpec)) itemParsesCard

/-- THE TIED CARD OF 'levermanlaw03.ItemBack'. -/
def itemBackCard : Claim7 := { stood := { row := itemBackRow, standIns := [], harness := (true, "9aaa91c1117cb2a8186d1be4b746d0255fc9c1961307c795a28e9113d6421681"), looks := false }, kinds := [], alts := [], laidByText := true, laidKinds := [.data, .data, .data, .data, .pinned], laidTests := true, laidLooks := .later }
def ItemBackCardSaid : Prop := Claim7.holds Tryd.pinned (.plain (OpenSpec.ofChange itemBackSpec)) itemBackCard

/-- THE TIED CARD OF 'levermanlaw03.ItemKinds'. -/
def itemKindsCard : Claim7 := { stood := { row := itemKindsRow, standIns := [], harness := (true, "9aaa91c1117cb2a8186d1be4b746d0255fc9c1961307c795a28e9113d6421681"), looks := false }, kinds := [], alts := [], laidByText := true, laidKinds := [.data, .data, .data, .data, .pinned], laidTests := true, laidLooks := .later }
def ItemKindsCardSaid : Prop := Claim7.holds Tryd.pinned (.plain (OpenSpec.ofChange itemKindsSpec)) itemKindsCard

/-- THE SECOND FORM's CARD OF 'levermanlaw03.ItemTells'. -/
def itemTellsUptoCard : Claim7 := { stood := { row := itemTellsUptoRow, standIns := [], harness := (true, "9aaa91c1117cb2a8186d1be4b746d0255fc9c1961307c795a28e9113d6421681"), looks := false }, kinds := [], alts := [], laidByText := true, laidKinds := [.data, .data, .data, .data, .pinned], laidTests := true, laidLooks := .later }
def ItemTellsUptoCardSaid : Prop := Claim7.holds Tryd.pinned (.plain (OpenSpec.upto itemTellsSpec)) itemTellsUptoCard

/-- THE SECOND FORM's CARD OF 'levermanlaw03.ItemParses'. -/
def itemParsesUptoCard : Claim7 := { stood := { row := itemParsesUptoRow, standIns := [], harness := (true, "9aaa91c1117cb2a8186d1be4b746d0255fc9c1961307c795a28e9113d6421681"), looks := false }, kinds := [], alts := [], laidByText := true, laidKinds := [.data, .data, .data, .data, .pinned], laidTests := true, laidLooks := .later }
def ItemParsesUptoCardSaid : Prop := Claim7.holds Tryd.pinned (.plain (OpenSpec.upto itemParsesSpec)) itemParsesUptoCard

/-- THE SECOND FORM's CARD OF 'levermanlaw03.ItemBack'. -/
def itemBackUptoCard : Claim7 := { stood := { row := itemBackUptoRow, standIns := [], harness := (true, "9aaa91c1117cb2a8186d1be4b746d0255fc9c1961307c795a28e9113d6421681"), looks := false }, kinds := [], alts := [], laidByText := true, laidKinds := [.data, .data, .data, .data, .pinned], laidTests := true, laidLooks := .later }
def ItemBackUptoCardSaid : Prop := Claim7.holds Tryd.pinned (.plain (OpenSpec.upto itemBackSpec)) itemBackUptoCard

/-- THE SECOND FORM's CARD OF 'levermanlaw03.ItemKinds'. -/
def itemKindsUptoCard : Claim7 := { stood := { row := itemKindsUptoRow, standIns := [], harness := (true, "9aaa91c1117cb2a8186d1be4b746d0255fc9c1961307c795a28e9113d6421681"), looks := false }, kinds := [], alts := [], laidByText := true, laidKinds := [.data, .data, .data, .data, .pinned], laidTests := true, laidLooks := .later }
def ItemKindsUptoCardSaid : Prop := Claim7.holds Tryd.pinned (.plain (OpenSpec.upto itemKindsSpec)) itemKindsUptoCard
end Rows
end Go.Proofs.YtmddabemnjlniaaDoor
