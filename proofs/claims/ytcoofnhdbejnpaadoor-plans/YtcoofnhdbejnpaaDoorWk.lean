/- Package paneslaw: Plans answers true. -/
import Derived.Test.YtcoofnhdbejnpaaDoorWx
namespace Go.Proofs.YtcoofnhdbejnpaaDoor
open Go.RowKit
theorem add_four (a : Addr) (n : Nat) : a.add (n + 4) = ⟨(a.add n).block, (a.add n).off + 4, none⟩ := by
  unfold Addr.add
  by_cases h : n = 0
  · subst h; simp
  · simp [h]; omega
set_option maxRecDepth 100000 in
set_option maxHeartbeats 1000000 in
theorem plans_walk (a : Addr) (len cap : Nat) (K : Nat → Int) (S : Nat → ByteArray) (w : World) (hl : len ≤ maxLen) (ha : 0 < len → a.block < w.heap.size)
    (hc : ∀ i, i < len → w.cell? (a.add (i * 6)) = some (.int .i64 (K i)) ∧ w.cell? (a.add (i * 6 + 4)) = some (.string (S i)) ∧ (S i).size ≤ maxLen) :
    Calls Tryd.prog 3 #[.slice (some a) len cap] w fun e w' => e = .returned (.bool true) ∧ Below w.heap.size w w' := by
  have HC := hide hc
  clear hc
  unfold maxLen at hl
  go_enter Tryd.func3, Tryd.ntmps3
  go_wp2
  go_loopw [3] (fun i wr => ∃ k : Nat, k ≤ len ∧ i = .int .i64 k ∧ Below w.heap.size w wr) (fun i _ => len - (intOf i).toNat)
  case atStart => exact ⟨0, by omega, rfl, Below.refl _ _⟩
  case round =>
    obtain ⟨k, hk, rfl, hb⟩ := hrel
    by_cases hlt : k < len
    · obtain ⟨c0, c4, hsz⟩ := HC.out k hlt
      have d0 := (hb.cell (p := a.add (k * 6)) (by unfold Addr.add; split <;> exact ha (by omega))).trans c0
      have d4 := (hb.cell (p := a.add (k * 6 + 4)) (by unfold Addr.add; split <;> exact ha (by omega))).trans c4
      rw [add_four] at d4
      clear c0 c4
      have hlt' : (k : Int) < (len : Int) := by omega
      by_cases h1 : K k = 1
      · have h1b : (K k == 1) = true := by simp [h1]
        have H1 := hide h1
        clear h1
        go_wp2_with fail
        refine (planned_any (S k) _ hsz).mono ?_
        rintro e w2 ⟨rfl, b2⟩
        go_wp2
        go_roundw
        case rel => exact ⟨k + 1, by omega, by go_num, hb.trans (b2.mono hb.size)⟩
        case measure => simp [intOf]; omega
      · have h1b : (K k == 1) = false := by simp [h1]
        go_wp2
        go_roundw
        case rel => exact ⟨k + 1, by omega, by go_num, hb⟩
        case measure => simp [intOf]; omega
    · have hlt' : ¬ (k : Int) < (len : Int) := by omega
      go_wp2
      go_ret
      exact ⟨rfl, hb⟩
theorem plans_walk0 (w : World) : Calls Tryd.prog 3 #[.slice none 0 0] w fun e w' => e = .returned (.bool true) ∧ Below w.heap.size w w' := by
  go_enter Tryd.func3, Tryd.ntmps3
  go_wp2
  go_loop [3] (fun i => i = .int .i64 0) (fun i => 0)
  case atStart => rfl
  case round =>
    subst hrel
    go_wp2
    go_ret
    exact ⟨rfl, Below.refl _ _⟩
end Go.Proofs.YtcoofnhdbejnpaaDoor
