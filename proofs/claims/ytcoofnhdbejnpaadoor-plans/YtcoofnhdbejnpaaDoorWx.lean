/- Package paneslaw: planned answers true. -/
import Derived.Test.YtcoofnhdbejnpaaDoorWj
namespace Go.Proofs.YtcoofnhdbejnpaaDoor
open Go.RowKit
set_option maxHeartbeats 1000000 in
theorem planned_any (s : ByteArray) (w : World) (hs : s.size ≤ maxLen) :
    Calls Tryd.prog 6 #[.string s] w fun e w' => e = .returned (.bool true) ∧ Below w.heap.size w w' := by
  go_enter Tryd.func6, Tryd.ntmps6
  go_wp2_with fail
  refine (plan_any s _ hs).mono ?_
  rintro e w1 ⟨rfl, b1⟩
  go_wp2_with fail
  refine (rplan_any s _ hs).mono ?_
  rintro e w2 ⟨rfl, b2⟩
  have B2 := hide (b1.trans (b2.mono b1.size))
  clear b1 b2
  generalize planTxt s.data.toList = tx at *
  generalize Pq.readE s.data.toList = ee at *
  generalize planP s.data.toList = pp at *
  have h1 : (tx == tx) = true := by simp
  have h2 : (ee == ee) = true := by simp
  have h3 : (pp == pp) = true := by simp
  go_wp2
  go_ret
  exact ⟨by simp, B2.out⟩
end Go.Proofs.YtcoofnhdbejnpaaDoor
