/- Package paneskeep: Plain answers true. -/
import Derived.Test.YtcoofnhdbejnpaaDoorKf
import Derived.Test.YtcoofnhdbejnpaaDoorRf
import Derived.Test.YtcoofnhdbejnpaaDoorMk
namespace Go.Proofs.YtcoofnhdbejnpaaDoor
open Go.RowKit
set_option maxHeartbeats 1000000 in
theorem plain_walk (s : ByteArray) (b t : Bool) (hs : s.size ≤ maxLen) (w : World) :
    Calls Tryd.prog 4 #[.string s, .bool b, .bool t] w fun e w' => e = .returned (.bool true) ∧ Below w.heap.size w w' := by
  have HM := hide (Pk.plain_math s.data.toList b t)
  go_enter Tryd.func4, Tryd.ntmps4
  go_wp2_with fail
  refine (query_any s b t _ hs).mono ?_
  rintro e w1 ⟨rfl, b1⟩
  generalize Pk.queryS s.data.toList b t = x at *
  have l1 : x.raw.length ≤ 300 := HM.out.2.2.1
  have l2 : x.plain.length ≤ 300 := HM.out.2.2.2
  have R1 : Hid (Pq.readE x.raw = 0) := HM.out.1.1
  have R2 : Hid (Pq.readE x.plain = 0) := HM.out.2.1.1
  have T1 : Hid (planTxt x.raw = x.plain) := by show _ = _; unfold planTxt; rw [if_pos R1.out]; exact HM.out.1.2
  have T2 : Hid (planTxt x.plain = x.plain) := by show _ = _; unfold planTxt; rw [if_pos R2.out]; exact HM.out.2.1.2
  have P1 : Hid (planP x.raw = 0) := by show _ = _; unfold planP; rw [if_pos R1.out]
  have P2 : Hid (planP x.plain = 0) := by show _ = _; unfold planP; rw [if_pos R2.out]
  go_wp2_with fail
  refine (plan_any ⟨x.raw.toArray⟩ _ (by show x.raw.toArray.size ≤ maxLen; unfold maxLen; simp; omega)).mono ?_
  rintro e w2 ⟨rfl, b2⟩
  have er1 : Pq.readE (ByteArray.data ⟨x.raw.toArray⟩).toList = 0 := R1.out
  have et1 : planTxt (ByteArray.data ⟨x.raw.toArray⟩).toList = x.plain := T1.out
  have ep1 : planP (ByteArray.data ⟨x.raw.toArray⟩).toList = 0 := P1.out
  rw [er1, et1, ep1]
  clear er1 et1 ep1
  have hsz : (w1.alloc (.cells #[.string ⟨x.raw.toArray⟩, .string ⟨x.plain.toArray⟩] 29)).heap.size = w1.heap.size + 1 := by simp
  rw [hsz] at b2
  have L2 := hide ((b2.block w1.heap.size (Nat.lt_succ_self _)).trans (heap_alloc_new w1 (.cells #[.string ⟨x.raw.toArray⟩, .string ⟨x.plain.toArray⟩] 29)))
  have B2 : Below w.heap.size w w2 := (b1.alloc b1.size _).trans (b2.mono (by have := b1.size; omega))
  have hsz2 := b2.size
  rw [hsz] at hsz2
  clear b2 hsz
  have c1 : w2.cell? ⟨w1.heap.size, 1, none⟩ = some (.string ⟨x.plain.toArray⟩) := cell_of_heap L2.out 1
  go_wp2_with fail
  refine (plan_any ⟨x.plain.toArray⟩ _ (by show x.plain.toArray.size ≤ maxLen; unfold maxLen; simp; omega)).mono ?_
  rintro e w3 ⟨rfl, b3⟩
  have er2 : Pq.readE (ByteArray.data ⟨x.plain.toArray⟩).toList = 0 := R2.out
  have et2 : planTxt (ByteArray.data ⟨x.plain.toArray⟩).toList = x.plain := T2.out
  have ep2 : planP (ByteArray.data ⟨x.plain.toArray⟩).toList = 0 := P2.out
  rw [er2, et2, ep2]
  clear er2 et2 ep2
  have B3 := B2.trans (b3.mono B2.size)
  have c3 : w3.cell? ⟨w1.heap.size, 1, none⟩ = some (.string ⟨x.plain.toArray⟩) := (b3.cell (p := ⟨w1.heap.size, 1, none⟩) (by show w1.heap.size < w2.heap.size; omega)).trans c1
  go_wp2
  go_ret
  exact ⟨by simp, B3⟩
end Go.Proofs.YtcoofnhdbejnpaaDoor
