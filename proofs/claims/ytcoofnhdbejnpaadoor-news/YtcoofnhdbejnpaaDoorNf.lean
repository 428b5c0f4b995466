/-
  For every script (a list of steps): paneslaw.News returns true, and the script reads afterwards as before. No condition beyond the tie: the five variables of math/bits, internal/strconv and strconv that the road names are tied to the program's text.
-/
import Derived.Test.YtcoofnhdbejnpaaDoorNe
import Derived.Test.YtcoofnhdbejnpaaDoorCards
import Derived.Test.YtcoofnhdbejnpaaDoorTie
import Derived.SevenTiedAt
namespace Go.Proofs.YtcoofnhdbejnpaaDoor
open Go
theorem news_card_holds : Rows.NewsCardSaid :=
  Claim7.holds_tied_plain_at .later [] [.data, .data, .data, .sentinel, .sentinel] true (true, "b318e731a67625c8e77ca9a068ef2e688d1997afb38cdde8c80763d7dd67f710") true
    news_holds (fun _ h => by cases h) (by kernel_rfl) (fun _ h => by cases h) news_row_tie rfl ⟨rfl, rfl⟩ (by kernel_rfl) rfl
    (fun f fn hf hfn => by
      obtain rfl : f = 5 := Option.some.inj ((show Tryd.prog.funcNamed Tryd.f5.name = some 5 by kernel_rfl).symm.trans hf) |>.symm
      obtain rfl : fn = Tryd.f5 := (Option.some.inj (Tryd.func5.symm.trans hfn)).symm
      exact ⟨by kernel_rfl, fun j t ht => by
        rw [Tryd.params5] at ht
        have hm : t ∈ [22] := by simpa using Array.mem_of_getElem? ht
        have hall : ([22].all fun u => !Tryd.prog.wantsStandIn u) = true := by kernel_rfl
        exact (show Tryd.prog.wantsStandIn t = false by simpa using List.all_eq_true.1 hall t hm)⟩)
    (by kernel_rfl)
end Go.Proofs.YtcoofnhdbejnpaaDoor
