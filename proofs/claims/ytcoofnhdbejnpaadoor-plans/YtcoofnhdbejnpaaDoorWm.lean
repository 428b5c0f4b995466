/-
  For every script (a list of steps): paneslaw.Plans returns true, and the script reads afterwards as before. No condition beyond the tie: the five variables of math/bits, internal/strconv and strconv that the road names are tied to the program's text.
-/
import Derived.Test.YtcoofnhdbejnpaaDoorWl
import Derived.Test.YtcoofnhdbejnpaaDoorCards
import Derived.Test.YtcoofnhdbejnpaaDoorTie
import Derived.SevenTiedAt
namespace Go.Proofs.YtcoofnhdbejnpaaDoor
open Go
theorem plans_card_holds : Rows.PlansCardSaid :=
  Claim7.holds_tied_plain_at .later [] [.data, .data, .data, .sentinel, .sentinel] true (true, "b318e731a67625c8e77ca9a068ef2e688d1997afb38cdde8c80763d7dd67f710") true
    plans_holds (fun _ h => by cases h) (by kernel_rfl) (fun _ h => by cases h) plans_row_tie rfl ⟨rfl, rfl⟩ (by kernel_rfl) rfl
    (fun f fn hf hfn => by
      obtain rfl : f = 3 := Option.some.inj ((show Tryd.prog.funcNamed Tryd.f3.name = some 3 by kernel_rfl).symm.trans hf) |>.symm
      obtain rfl : fn = Tryd.f3 := (Option.some.inj (Tryd.func3.symm.trans hfn)).symm
      exact ⟨by kernel_rfl, fun j t ht => by
        rw [Tryd.params3] at ht
        have hm : t ∈ [22] := by simpa using Array.mem_of_getElem? ht
        have hall : ([22].all fun u => !Tryd.prog.wantsStandIn u) = true := by kernel_rfl
        exact (show Tryd.prog.wantsStandIn t = false by simpa using List.all_eq_true.1 hall t hm)⟩)
    (by kernel_rfl)
end Go.Proofs.YtcoofnhdbejnpaaDoor
