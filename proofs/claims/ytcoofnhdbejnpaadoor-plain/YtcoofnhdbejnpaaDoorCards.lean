/-
  DERIVED. GIVEN WITH THE SEED: THE CARDS: each row of YtcoofnhdbejnpaaDoorRows.lean that lists a variable, with what it lists TIED to the program's text (the seventh form; the later family's looks); each row that meets fmt, with fmt's text TOLD by the authors' own Lean function (tested against real Go, not proved from fmt's source: count such statements apart). THE CARD IS WHAT COUNTS. Prove the row's statement (the work); the ties are given (YtcoofnhdbejnpaaDoorTie.lean); close each card by the builder's one call (the guide's Derived/Test/ToyasCard.lean, 'card_holds'). Laid BY PROGRAM, IN A SANDBOX (cutbox-door.mjs). By AI agents, Wed Nov 11 2026. No macro, syntax, notation, axiom, sorry.
-/
import Derived.Test.YtcoofnhdbejnpaaDoorRows
import GoSem.ClaimSeven
namespace Go.Proofs.YtcoofnhdbejnpaaDoor
namespace Rows

/-- THE TIED CARD OF 'paneslaw.Plans'. -/
def plansCard : Claim7 := { stood := { row := plansRow, standIns := [], harness := (true, "b318e731a67625c8e77ca9a068ef2e688d1997afb38cdde8c80763d7dd67f710"), looks := true }, kinds := [], alts := [], laidByText := true, laidKinds := [.data, .data, .data, .sentinel, .sentinel], laidTests := true, laidLooks := .later }
def PlansCardSaid : Prop := Claim7.holds Tryd.pinned (.plain (OpenSpec.ofChange plansSpec)) plansCard

/-- THE TIED CARD OF 'paneskeep.Plain'. -/
def plainCard : Claim7 := { stood := { row := plainRow, standIns := [], harness := (true, "b318e731a67625c8e77ca9a068ef2e688d1997afb38cdde8c80763d7dd67f710"), looks := true }, kinds := [], alts := [], laidByText := true, laidKinds := [.data, .data, .data], laidTests := true, laidLooks := .later }
def PlainCardSaid : Prop := Claim7.holds Tryd.pinned (.plain (OpenSpec.ofChange plainSpec)) plainCard

/-- THE TIED CARD OF 'paneslaw.News'. -/
def newsCard : Claim7 := { stood := { row := newsRow, standIns := [], harness := (true, "b318e731a67625c8e77ca9a068ef2e688d1997afb38cdde8c80763d7dd67f710"), looks := true }, kinds := [], alts := [], laidByText := true, laidKinds := [.data, .data, .data, .sentinel, .sentinel], laidTests := true, laidLooks := .later }
def NewsCardSaid : Prop := Claim7.holds Tryd.pinned (.plain (OpenSpec.ofChange newsSpec)) newsCard

/-- THE SECOND FORM's CARD OF 'paneslaw.Plans'. -/
def plansUptoCard : Claim7 := { stood := { row := plansUptoRow, standIns := [], harness := (true, "b318e731a67625c8e77ca9a068ef2e688d1997afb38cdde8c80763d7dd67f710"), looks := true }, kinds := [], alts := [], laidByText := true, laidKinds := [.data, .data, .data, .sentinel, .sentinel], laidTests := true, laidLooks := .later }
def PlansUptoCardSaid : Prop := Claim7.holds Tryd.pinned (.plain (OpenSpec.upto plansSpec)) plansUptoCard

/-- THE SECOND FORM's CARD OF 'paneskeep.Plain'. -/
def plainUptoCard : Claim7 := { stood := { row := plainUptoRow, standIns := [], harness := (true, "b318e731a67625c8e77ca9a068ef2e688d1997afb38cdde8c80763d7dd67f710"), looks := true }, kinds := [], alts := [], laidByText := true, laidKinds := [.data, .data, .data], laidTests := true, laidLooks := .later }
def PlainUptoCardSaid : Prop := Claim7.holds Tryd.pinned (.plain (OpenSpec.upto plainSpec)) plainUptoCard

/-- THE SECOND FORM's CARD OF 'paneslaw.News'. -/
def newsUptoCard : Claim7 := { stood := { row := newsUptoRow, standIns := [], harness := (true, "b318e731a67625c8e77ca9a068ef2e688d1997afb38cdde8c80763d7dd67f710"), looks := true }, kinds := [], alts := [], laidByText := true, laidKinds := [.data, .data, .data, .sentinel, .sentinel], laidTests := true, laidLooks := .later }
def NewsUptoCardSaid : Prop := Claim7.holds Tryd.pinned (.plain (OpenSpec.upto newsSpec)) newsUptoCard
end Rows
end Go.Proofs.YtcoofnhdbejnpaaDoor
