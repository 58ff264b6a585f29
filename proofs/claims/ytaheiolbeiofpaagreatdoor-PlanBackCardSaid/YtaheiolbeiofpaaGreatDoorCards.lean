/-
  DERIVED. GIVEN WITH THE SEED: THE CARDS: each row of YtaheiolbeiofpaaGreatDoorRows.lean that lists a variable, with what it lists TIED to the program's text (the seventh form; the later family's looks); each row that meets fmt, with fmt's text TOLD by the authors' own Lean function (tested against real Go, not proved from fmt's source: count such statements apart). THE CARD IS WHAT COUNTS. Prove the row's statement (the work); the ties are given (YtaheiolbeiofpaaGreatDoorTie.lean); close each card by the builder's one call (the guide's Derived/Test/ToyasCard.lean, 'card_holds'). Laid BY PROGRAM, IN A SANDBOX (cutbox-door.mjs). By AI agents, Wed Nov 11 2026. No macro, syntax, notation, axiom, sorry.
-/
import Derived.Test.YtaheiolbeiofpaaGreatDoorRows
import GoSem.ClaimSeven
namespace Go.Proofs.YtaheiolbeiofpaaGreatDoor
namespace Rows

/-- THE TIED CARD OF 'levermanlaw05.PlanBuilds'. -/
def planBuildsCard : Claim7 := { stood := { row := planBuildsRow, standIns := [], harness := (true, "257c8163f6d3f8fcc90c717d4941dac2733db58a8f51b1fd56f7e8ad0edfadd7"), looks := false }, kinds := [], alts := [], laidByText := true, laidKinds := [.data, .data, .data, .data, .pinned], laidTests := true, laidLooks := .later }
def PlanBuildsCardSaid : Prop := Claim7.holds Tryz.pinned (.plain (OpenSpec.ofChange planBuildsSpec)) planBuildsCard

/-- THE TIED CARD OF 'levermanlaw05.PlanBack'. -/
def planBackCard : Claim7 := { stood := { row := planBackRow, standIns := [], harness := (true, "257c8163f6d3f8fcc90c717d4941dac2733db58a8f51b1fd56f7e8ad0edfadd7"), looks := false }, kinds := [], alts := [], laidByText := true, laidKinds := [.data, .data, .data, .data, .pinned], laidTests := true, laidLooks := .later }
def PlanBackCardSaid : Prop := Claim7.holds Tryz.pinned (.plain (OpenSpec.ofChange planBackSpec)) planBackCard

/-- THE TIED CARD OF 'levermanlaw05.PlanJoins'. -/
def planJoinsCard : Claim7 := { stood := { row := planJoinsRow, standIns := [], harness := (true, "257c8163f6d3f8fcc90c717d4941dac2733db58a8f51b1fd56f7e8ad0edfadd7"), looks := false }, kinds := [], alts := [], laidByText := true, laidKinds := [.data, .data, .data, .data, .pinned], laidTests := true, laidLooks := .later }
def PlanJoinsCardSaid : Prop := Claim7.holds Tryz.pinned (.plain (OpenSpec.ofChange planJoinsSpec)) planJoinsCard

/-- THE TIED CARD OF 'levermanlaw05.PlanFaults'. -/
def planFaultsCard : Claim7 := { stood := { row := planFaultsRow, standIns := [], harness := (true, "257c8163f6d3f8fcc90c717d4941dac2733db58a8f51b1fd56f7e8ad0edfadd7"), looks := false }, kinds := [], alts := [], laidByText := true, laidKinds := [.data, .data, .data, .data, .pinned], laidTests := true, laidLooks := .later }
def PlanFaultsCardSaid : Prop := Claim7.holds Tryz.pinned (.plain (OpenSpec.ofChange planFaultsSpec)) planFaultsCard

/-- THE TIED CARD OF 'levermanlaw05.PlanFinds'. -/
def planFindsCard : Claim7 := { stood := { row := planFindsRow, standIns := [], harness := (true, "257c8163f6d3f8fcc90c717d4941dac2733db58a8f51b1fd56f7e8ad0edfadd7"), looks := false }, kinds := [], alts := [], laidByText := true, laidKinds := [.data, .data, .data, .data, .pinned], laidTests := true, laidLooks := .later }
def PlanFindsCardSaid : Prop := Claim7.holds Tryz.pinned (.plain (OpenSpec.ofChange planFindsSpec)) planFindsCard

/-- THE SECOND FORM's CARD OF 'levermanlaw05.PlanBuilds'. -/
def planBuildsUptoCard : Claim7 := { stood := { row := planBuildsUptoRow, standIns := [], harness := (true, "257c8163f6d3f8fcc90c717d4941dac2733db58a8f51b1fd56f7e8ad0edfadd7"), looks := false }, kinds := [], alts := [], laidByText := true, laidKinds := [.data, .data, .data, .data, .pinned], laidTests := true, laidLooks := .later }
def PlanBuildsUptoCardSaid : Prop := Claim7.holds Tryz.pinned (.plain (OpenSpec.upto planBuildsSpec)) planBuildsUptoCard

/-- THE SECOND FORM's CARD OF 'levermanlaw05.PlanBack'. -/
def planBackUptoCard : Claim7 := { stood := { row := planBackUptoRow, standIns := [], harness := (true, "257c8163f6d3f8fcc90c717d4941dac2733db58a8f51b1fd56f7e8ad0edfadd7"), looks := false }, kinds := [], alts := [], laidByText := true, laidKinds := [.data, .data, .data, .data, .pinned], laidTests := true, laidLooks := .later }
def PlanBackUptoCardSaid : Prop := Claim7.holds Tryz.pinned (.plain (OpenSpec.upto planBackSpec)) planBackUptoCard

/-- THE SECOND FORM's CARD OF 'levermanlaw05.PlanJoins'. -/
def planJoinsUptoCard : Claim7 := { stood := { row := planJoinsUptoRow, standIns := [], harness := (true, "257c8163f6d3f8fcc90c717d4941dac2733db58a8f51b1fd56f7e8ad0edfadd7"), looks := false }, kinds := [], alts := [], laidByText := true, laidKinds := [.data, .data, .data, .data, .pinned], laidTests := true, laidLooks := .later }
def PlanJoinsUptoCardSaid : Prop := Claim7.holds Tryz.pinned (.plain (OpenSpec.upto planJoinsSpec)) planJoinsUptoCard

/-- THE SECOND FORM's CARD OF 'levermanlaw05.PlanFaults'. -/
def planFaultsUptoCard : Claim7 := { stood := { row := planFaultsUptoRow, standIns := [], harness := (true, "257c8163f6d3f8fcc90c717d4941dac2733db58a8f51b1fd56f7e8ad0edfadd7"), looks := false }, kinds := [], alts := [], laidByText := true, laidKinds := [.data, .data, .data, .data, .pinned], laidTests := true, laidLooks := .later }
def PlanFaultsUptoCardSaid : Prop := Claim7.holds Tryz.pinned (.plain (OpenSpec.upto planFaultsSpec)) planFaultsUptoCard

/-- THE SECOND FORM's CARD OF 'levermanlaw05.PlanFinds'. -/
def planFindsUptoCard : Claim7 := { stood := { row := planFindsUptoRow, standIns := [], harness := (true, "257c8163f6d3f8fcc90c717d4941dac2733db58a8f51b1fd56f7e8ad0edfadd7"), looks := false }, kinds := [], alts := [], laidByText := true, laidKinds := [.data, .data, .data, .data, .pinned], laidTests := true, laidLooks := .later }
def PlanFindsUptoCardSaid : Prop := Claim7.holds Tryz.pinned (.plain (OpenSpec.upto planFindsSpec)) planFindsUptoCard
end Rows
end Go.Proofs.YtaheiolbeiofpaaGreatDoor
