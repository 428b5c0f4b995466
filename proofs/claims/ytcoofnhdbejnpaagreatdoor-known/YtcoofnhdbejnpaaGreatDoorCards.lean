/-
  DERIVED. GIVEN WITH THE SEED: THE CARDS: each row of YtcoofnhdbejnpaaGreatDoorRows.lean that lists a variable, with what it lists TIED to the program's text (the seventh form; the later family's looks); each row that meets fmt, with fmt's text TOLD by the authors' own Lean function (tested against real Go, not proved from fmt's source: count such statements apart). THE CARD IS WHAT COUNTS. Prove the row's statement (the work); the ties are given (YtcoofnhdbejnpaaGreatDoorTie.lean); close each card by the builder's one call (the guide's Derived/Test/ToyasCard.lean, 'card_holds'). Laid BY PROGRAM, IN A SANDBOX (cutbox-door.mjs). By AI agents, Wed Nov 11 2026. No macro, syntax, notation, axiom, sorry.
-/
import Derived.Test.YtcoofnhdbejnpaaGreatDoorRows
import GoSem.ClaimSeven
namespace Go.Proofs.YtcoofnhdbejnpaaGreatDoor
namespace Rows

/-- THE TIED CARD OF 'paneslaw.Tables'. -/
def tablesCard : Claim7 := { stood := { row := tablesRow, standIns := [], harness := (true, "f2733e87251a474c41742e927a9d7f8a24398deaa213218e7e6105b0248c191c"), looks := true }, kinds := [], alts := [], laidByText := true, laidKinds := [.data, .data, .data, .sentinel, .sentinel], laidTests := true, laidLooks := .later }
def TablesCardSaid : Prop := Claim7.holds Tryz.pinned (.plain (OpenSpec.ofChange tablesSpec)) tablesCard

/-- THE TIED CARD OF 'paneslaw.Applies'. -/
def appliesCard : Claim7 := { stood := { row := appliesRow, standIns := [], harness := (true, "f2733e87251a474c41742e927a9d7f8a24398deaa213218e7e6105b0248c191c"), looks := true }, kinds := [], alts := [], laidByText := true, laidKinds := [.data, .data, .data, .sentinel, .sentinel], laidTests := true, laidLooks := .later }
def AppliesCardSaid : Prop := Claim7.holds Tryz.pinned (.plain (OpenSpec.ofChange appliesSpec)) appliesCard

/-- THE TIED CARD OF 'paneslaw.Shows'. -/
def showsCard : Claim7 := { stood := { row := showsRow, standIns := [], harness := (true, "f2733e87251a474c41742e927a9d7f8a24398deaa213218e7e6105b0248c191c"), looks := true }, kinds := [], alts := [], laidByText := true, laidKinds := [.data, .data, .data, .sentinel, .sentinel], laidTests := true, laidLooks := .later }
def ShowsCardSaid : Prop := Claim7.holds Tryz.pinned (.plain (OpenSpec.ofChange showsSpec)) showsCard

/-- THE TIED CARD OF 'paneskeep.Known'. -/
def knownCard : Claim7 := { stood := { row := knownRow, standIns := [], harness := (true, "f2733e87251a474c41742e927a9d7f8a24398deaa213218e7e6105b0248c191c"), looks := true }, kinds := [], alts := [], laidByText := true, laidKinds := [.data, .data, .data], laidTests := true, laidLooks := .later }
def KnownCardSaid : Prop := Claim7.holds Tryz.pinned (.plain (OpenSpec.ofChange knownSpec)) knownCard

/-- THE TIED CARD OF 'paneskeep.Adds'. -/
def addsCard : Claim7 := { stood := { row := addsRow, standIns := [], harness := (true, "f2733e87251a474c41742e927a9d7f8a24398deaa213218e7e6105b0248c191c"), looks := true }, kinds := [], alts := [], laidByText := true, laidKinds := [.data, .data, .data], laidTests := true, laidLooks := .later }
def AddsCardSaid : Prop := Claim7.holds Tryz.pinned (.plain (OpenSpec.ofChange addsSpec)) addsCard

/-- THE TIED CARD OF 'paneskeep.Undone'. -/
def undoneCard : Claim7 := { stood := { row := undoneRow, standIns := [], harness := (true, "f2733e87251a474c41742e927a9d7f8a24398deaa213218e7e6105b0248c191c"), looks := true }, kinds := [], alts := [], laidByText := true, laidKinds := [.data, .data, .data], laidTests := true, laidLooks := .later }
def UndoneCardSaid : Prop := Claim7.holds Tryz.pinned (.plain (OpenSpec.ofChange undoneSpec)) undoneCard

/-- THE TIED CARD OF 'paneskeep.Settled'. -/
def settledCard : Claim7 := { stood := { row := settledRow, standIns := [], harness := (true, "f2733e87251a474c41742e927a9d7f8a24398deaa213218e7e6105b0248c191c"), looks := true }, kinds := [], alts := [], laidByText := true, laidKinds := [.data, .data, .data], laidTests := true, laidLooks := .later }
def SettledCardSaid : Prop := Claim7.holds Tryz.pinned (.plain (OpenSpec.ofChange settledSpec)) settledCard

/-- THE TIED CARD OF 'paneskeep.Parted'. -/
def partedCard : Claim7 := { stood := { row := partedRow, standIns := [], harness := (true, "f2733e87251a474c41742e927a9d7f8a24398deaa213218e7e6105b0248c191c"), looks := true }, kinds := [], alts := [], laidByText := true, laidKinds := [.data, .data, .data], laidTests := true, laidLooks := .later }
def PartedCardSaid : Prop := Claim7.holds Tryz.pinned (.plain (OpenSpec.ofChange partedSpec)) partedCard

/-- THE TIED CARD OF 'paneskeep.Topped'. -/
def toppedCard : Claim7 := { stood := { row := toppedRow, standIns := [], harness := (true, "f2733e87251a474c41742e927a9d7f8a24398deaa213218e7e6105b0248c191c"), looks := true }, kinds := [], alts := [], laidByText := true, laidKinds := [.data, .data, .data], laidTests := true, laidLooks := .later }
def ToppedCardSaid : Prop := Claim7.holds Tryz.pinned (.plain (OpenSpec.ofChange toppedSpec)) toppedCard

/-- THE SECOND FORM's CARD OF 'paneslaw.Tables'. -/
def tablesUptoCard : Claim7 := { stood := { row := tablesUptoRow, standIns := [], harness := (true, "f2733e87251a474c41742e927a9d7f8a24398deaa213218e7e6105b0248c191c"), looks := true }, kinds := [], alts := [], laidByText := true, laidKinds := [.data, .data, .data, .sentinel, .sentinel], laidTests := true, laidLooks := .later }
def TablesUptoCardSaid : Prop := Claim7.holds Tryz.pinned (.plain (OpenSpec.upto tablesSpec)) tablesUptoCard

/-- THE SECOND FORM's CARD OF 'paneslaw.Applies'. -/
def appliesUptoCard : Claim7 := { stood := { row := appliesUptoRow, standIns := [], harness := (true, "f2733e87251a474c41742e927a9d7f8a24398deaa213218e7e6105b0248c191c"), looks := true }, kinds := [], alts := [], laidByText := true, laidKinds := [.data, .data, .data, .sentinel, .sentinel], laidTests := true, laidLooks := .later }
def AppliesUptoCardSaid : Prop := Claim7.holds Tryz.pinned (.plain (OpenSpec.upto appliesSpec)) appliesUptoCard

/-- THE SECOND FORM's CARD OF 'paneslaw.Shows'. -/
def showsUptoCard : Claim7 := { stood := { row := showsUptoRow, standIns := [], harness := (true, "f2733e87251a474c41742e927a9d7f8a24398deaa213218e7e6105b0248c191c"), looks := true }, kinds := [], alts := [], laidByText := true, laidKinds := [.data, .data, .data, .sentinel, .sentinel], laidTests := true, laidLooks := .later }
def ShowsUptoCardSaid : Prop := Claim7.holds Tryz.pinned (.plain (OpenSpec.upto showsSpec)) showsUptoCard

/-- THE SECOND FORM's CARD OF 'paneskeep.Known'. -/
def knownUptoCard : Claim7 := { stood := { row := knownUptoRow, standIns := [], harness := (true, "f2733e87251a474c41742e927a9d7f8a24398deaa213218e7e6105b0248c191c"), looks := true }, kinds := [], alts := [], laidByText := true, laidKinds := [.data, .data, .data], laidTests := true, laidLooks := .later }
def KnownUptoCardSaid : Prop := Claim7.holds Tryz.pinned (.plain (OpenSpec.upto knownSpec)) knownUptoCard

/-- THE SECOND FORM's CARD OF 'paneskeep.Adds'. -/
def addsUptoCard : Claim7 := { stood := { row := addsUptoRow, standIns := [], harness := (true, "f2733e87251a474c41742e927a9d7f8a24398deaa213218e7e6105b0248c191c"), looks := true }, kinds := [], alts := [], laidByText := true, laidKinds := [.data, .data, .data], laidTests := true, laidLooks := .later }
def AddsUptoCardSaid : Prop := Claim7.holds Tryz.pinned (.plain (OpenSpec.upto addsSpec)) addsUptoCard

/-- THE SECOND FORM's CARD OF 'paneskeep.Undone'. -/
def undoneUptoCard : Claim7 := { stood := { row := undoneUptoRow, standIns := [], harness := (true, "f2733e87251a474c41742e927a9d7f8a24398deaa213218e7e6105b0248c191c"), looks := true }, kinds := [], alts := [], laidByText := true, laidKinds := [.data, .data, .data], laidTests := true, laidLooks := .later }
def UndoneUptoCardSaid : Prop := Claim7.holds Tryz.pinned (.plain (OpenSpec.upto undoneSpec)) undoneUptoCard

/-- THE SECOND FORM's CARD OF 'paneskeep.Settled'. -/
def settledUptoCard : Claim7 := { stood := { row := settledUptoRow, standIns := [], harness := (true, "f2733e87251a474c41742e927a9d7f8a24398deaa213218e7e6105b0248c191c"), looks := true }, kinds := [], alts := [], laidByText := true, laidKinds := [.data, .data, .data], laidTests := true, laidLooks := .later }
def SettledUptoCardSaid : Prop := Claim7.holds Tryz.pinned (.plain (OpenSpec.upto settledSpec)) settledUptoCard

/-- THE SECOND FORM's CARD OF 'paneskeep.Parted'. -/
def partedUptoCard : Claim7 := { stood := { row := partedUptoRow, standIns := [], harness := (true, "f2733e87251a474c41742e927a9d7f8a24398deaa213218e7e6105b0248c191c"), looks := true }, kinds := [], alts := [], laidByText := true, laidKinds := [.data, .data, .data], laidTests := true, laidLooks := .later }
def PartedUptoCardSaid : Prop := Claim7.holds Tryz.pinned (.plain (OpenSpec.upto partedSpec)) partedUptoCard

/-- THE SECOND FORM's CARD OF 'paneskeep.Topped'. -/
def toppedUptoCard : Claim7 := { stood := { row := toppedUptoRow, standIns := [], harness := (true, "f2733e87251a474c41742e927a9d7f8a24398deaa213218e7e6105b0248c191c"), looks := true }, kinds := [], alts := [], laidByText := true, laidKinds := [.data, .data, .data], laidTests := true, laidLooks := .later }
def ToppedUptoCardSaid : Prop := Claim7.holds Tryz.pinned (.plain (OpenSpec.upto toppedSpec)) toppedUptoCard
end Rows
end Go.Proofs.YtcoofnhdbejnpaaGreatDoor
