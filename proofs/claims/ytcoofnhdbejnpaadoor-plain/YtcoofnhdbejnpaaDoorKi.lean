/-
  For every text of raw bytes and both choices of by and top: paneskeep.Plain returns true, and its arguments read afterwards as before. No condition beyond the tie: the three tables of math/bits and internal/strconv that the road names are tied to the program's text.
-/
import Derived.Test.YtcoofnhdbejnpaaDoorKh
import Derived.Test.YtcoofnhdbejnpaaDoorCards
import Derived.Test.YtcoofnhdbejnpaaDoorTie
import Derived.SevenTiedAt
namespace Go.Proofs.YtcoofnhdbejnpaaDoor
open Go
theorem plain_card_holds : Rows.PlainCardSaid :=
  Claim7.holds_tied_plain_at .later [] [.data, .data, .data] true (true, "b318e731a67625c8e77ca9a068ef2e688d1997afb38cdde8c80763d7dd67f710") true
    plain_holds (fun _ h => by cases h) (by kernel_rfl) (fun _ h => by cases h) plain_row_tie rfl ⟨rfl, rfl⟩ (by kernel_rfl) rfl
    (fun f fn hf hfn => by
      obtain rfl : f = 4 := Option.some.inj ((show Tryd.prog.funcNamed Tryd.f4.name = some 4 by kernel_rfl).symm.trans hf) |>.symm
      obtain rfl : fn = Tryd.f4 := (Option.some.inj (Tryd.func4.symm.trans hfn)).symm
      exact ⟨by kernel_rfl, fun j t ht => by
        rw [Tryd.params4] at ht
        have hm : t ∈ [9, 4, 4] := by simpa using Array.mem_of_getElem? ht
        have hall : ([9, 4, 4].all fun u => !Tryd.prog.wantsStandIn u) = true := by kernel_rfl
        exact (show Tryd.prog.wantsStandIn t = false by simpa using List.all_eq_true.1 hall t hm)⟩)
    (by kernel_rfl)
end Go.Proofs.YtcoofnhdbejnpaaDoor
