/-
  DERIVED. GIVEN WITH THE SEED: THE CARDS: each row of YtpnkapjbmkemkaaDoorRows.lean that lists a variable, with what it lists TIED to the program's text (the seventh form; the later family's looks); each row that meets fmt, with fmt's text TOLD by the authors' own Lean function (tested against real Go, not proved from fmt's source: count such statements apart). THE CARD IS WHAT COUNTS. Prove the row's statement (the work); the ties are given (YtpnkapjbmkemkaaDoorTie.lean); close each card by the builder's one call (the guide's Derived/Test/ToyasCard.lean, 'card_holds'). Laid BY PROGRAM, IN A SANDBOX (cutbox-door.mjs). By AI agents, Wed Nov 11 2026. No macro, syntax, notation, axiom, sorry.
-/
import Derived.Test.YtpnkapjbmkemkaaDoorRows
import GoSem.ClaimSeven
namespace Go.Proofs.YtpnkapjbmkemkaaDoor
namespace Rows

/-- THE TIED CARD OF 'paneslaw.Plans'. -/
def plansCard : Claim7 := { stood := { row := plansRow, standIns := [], harness := (true, "7562142e21dca3255cc6f66b5998c6dd7df8a8d451349890b49685cdd8b5d35b"), looks := true }, kinds := [], alts := [], laidByText := true, laidKinds := [.data, .data, .data, .sentinel, .sentinel], laidTests := true, laidLooks := .later }
def PlansCardSaid : Prop := Claim7.holds Tryd.pinned (.plain (OpenSpec.ofChange plansSpec)) plansCard

/-- THE TIED CARD OF 'paneskeep.Plain'. -/
def plainCard : Claim7 := { stood := { row := plainRow, standIns := [], harness := (true, "7562142e21dca3255cc6f66b5998c6dd7df8a8d451349890b49685cdd8b5d35b"), looks := true }, kinds := [], alts := [], laidByText := true, laidKinds := [.data, .data, .data], laidTests := true, laidLooks := .later }
def PlainCardSaid : Prop := Claim7.holds Tryd.pinned (.plain (OpenSpec.ofChange plainSpec)) plainCard

/-- THE TIED CARD OF 'paneslaw.News'. -/
def newsCard : Claim7 := { stood := { row := newsRow, standIns := [], harness := (true, "7562142e21dca3255cc6f66b5998c6dd7df8a8d451349890b49685cdd8b5d35b"), looks := true }, kinds := [], alts := [], laidByText := true, laidKinds := [.data, .data, .data, .sentinel, .sentinel], laidTests := true, laidLooks := .later }
def NewsCardSaid : Prop := Claim7.holds Tryd.pinned (.plain (OpenSpec.ofChange newsSpec)) newsCard

/-- THE TIED CARD OF 'paneskeep.Undone'. -/
def undoneCard : Claim7 := { stood := { row := undoneRow, standIns := [], harness := (true, "7562142e21dca3255cc6f66b5998c6dd7df8a8d451349890b49685cdd8b5d35b"), looks := true }, kinds := [], alts := [], laidByText := true, laidKinds := [.data, .data, .data], laidTests := true, laidLooks := .later }
def UndoneCardSaid : Prop := Claim7.holds Tryd.pinned (.plain (OpenSpec.ofChange undoneSpec)) undoneCard

/-- THE TIED CARD OF 'paneskeep.Settled'. -/
def settledCard : Claim7 := { stood := { row := settledRow, standIns := [], harness := (true, "7562142e21dca3255cc6f66b5998c6dd7df8a8d451349890b49685cdd8b5d35b"), looks := true }, kinds := [], alts := [], laidByText := true, laidKinds := [.data, .data, .data], laidTests := true, laidLooks := .later }
def SettledCardSaid : Prop := Claim7.holds Tryd.pinned (.plain (OpenSpec.ofChange settledSpec)) settledCard

/-- THE SECOND FORM's CARD OF 'paneslaw.Plans'. -/
def plansUptoCard : Claim7 := { stood := { row := plansUptoRow, standIns := [], harness := (true, "7562142e21dca3255cc6f66b5998c6dd7df8a8d451349890b49685cdd8b5d35b"), looks := true }, kinds := [], alts := [], laidByText := true, laidKinds := [.data, .data, .data, .sentinel, .sentinel], laidTests := true, laidLooks := .later }
def PlansUptoCardSaid : Prop := Claim7.holds Tryd.pinned (.plain (OpenSpec.upto plansSpec)) plansUptoCard

/-- THE SECOND FORM's CARD OF 'paneskeep.Plain'. -/
def plainUptoCard : Claim7 := { stood := { row := plainUptoRow, standIns := [], harness := (true, "7562142e21dca3255cc6f66b5998c6dd7df8a8d451349890b49685cdd8b5d35b"), looks := true }, kinds := [], alts := [], laidByText := true, laidKinds := [.data, .data, .data], laidTests := true, laidLooks := .later }
def PlainUptoCardSaid : Prop := Claim7.holds Tryd.pinned (.plain (OpenSpec.upto plainSpec)) plainUptoCard

/-- THE SECOND FORM's CARD OF 'paneslaw.News'. -/
def newsUptoCard : Claim7 := { stood := { row := newsUptoRow, standIns := [], harness := (true, "7562142e21dca3255cc6f66b5998c6dd7df8a8d451349890b49685cdd8b5d35b"), looks := true }, kinds := [], alts := [], laidByText := true, laidKinds := [.data, .data, .data, .sentinel, .sentinel], laidTests := true, laidLooks := .later }
def NewsUptoCardSaid : Prop := Claim7.holds Tryd.pinned (.plain (OpenSpec.upto newsSpec)) newsUptoCard

/-- THE SECOND FORM's CARD OF 'paneskeep.Undone'. -/
def undoneUptoCard : Claim7 := { stood := { row := undoneUptoRow, standIns := [], harness := (true, "7562142e21dca3255cc6f66b5998c6dd7df8a8d451349890b49685cdd8b5d35b"), looks := true }, kinds := [], alts := [], laidByText := true, laidKinds := [.data, .data, .data], laidTests := true, laidLooks := .later }
def UndoneUptoCardSaid : Prop := Claim7.holds Tryd.pinned (.plain (OpenSpec.upto undoneSpec)) undoneUptoCard

/-- THE SECOND FORM's CARD OF 'paneskeep.Settled'. -/
def settledUptoCard : Claim7 := { stood := { row := settledUptoRow, standIns := [], harness := (true, "7562142e21dca3255cc6f66b5998c6dd7df8a8d451349890b49685cdd8b5d35b"), looks := true }, kinds := [], alts := [], laidByText := true, laidKinds := [.data, .data, .data], laidTests := true, laidLooks := .later }
def SettledUptoCardSaid : Prop := Claim7.holds Tryd.pinned (.plain (OpenSpec.upto settledSpec)) settledUptoCard
end Rows
end Go.Proofs.YtpnkapjbmkemkaaDoor
