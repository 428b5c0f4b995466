/- Package queries: names; numbers; one of several words. -/
import Derived.Test.YtcoofnhdbejnpaaDoorQc
namespace Go.Proofs.YtcoofnhdbejnpaaDoor
open Go.RowKit
set_option maxHeartbeats 400000 in
theorem colName_any (k : Nat) (hk : k < 3) (w : World) :
    Calls Tryd.prog 49 #[.int .i64 (k : Int)] w fun e w' => e = .returned (.string ⟨(Pq.colTxt k).toArray⟩) ∧ w = w' := by
  match k, hk with
  | 0, _ => (go_enter Tryd.func49, Tryd.ntmps49; go_wp2; go_ret; exact ⟨rfl, rfl⟩)
  | 1, _ => (go_enter Tryd.func49, Tryd.ntmps49; go_wp2; go_ret; exact ⟨rfl, rfl⟩)
  | 2, _ => (go_enter Tryd.func49, Tryd.ntmps49; go_wp2; go_ret; exact ⟨rfl, rfl⟩)
set_option maxHeartbeats 1000000 in
theorem kindName_any (k : Nat) (hk : k < 12) (w : World) :
    Calls Tryd.prog 67 #[.int .i64 (k : Int)] w fun e w' => e = .returned (.string ⟨(Pq.kindTxt k).toArray⟩) ∧ w = w' := by
  match k, hk with
  | 0, _ => (go_enter Tryd.func67, Tryd.ntmps67; go_wp2; go_ret; exact ⟨rfl, rfl⟩)
  | 1, _ => (go_enter Tryd.func67, Tryd.ntmps67; go_wp2; go_ret; exact ⟨rfl, rfl⟩)
  | 2, _ => (go_enter Tryd.func67, Tryd.ntmps67; go_wp2; go_ret; exact ⟨rfl, rfl⟩)
  | 3, _ => (go_enter Tryd.func67, Tryd.ntmps67; go_wp2; go_ret; exact ⟨rfl, rfl⟩)
  | 4, _ => (go_enter Tryd.func67, Tryd.ntmps67; go_wp2; go_ret; exact ⟨rfl, rfl⟩)
  | 5, _ => (go_enter Tryd.func67, Tryd.ntmps67; go_wp2; go_ret; exact ⟨rfl, rfl⟩)
  | 6, _ => (go_enter Tryd.func67, Tryd.ntmps67; go_wp2; go_ret; exact ⟨rfl, rfl⟩)
  | 7, _ => (go_enter Tryd.func67, Tryd.ntmps67; go_wp2; go_ret; exact ⟨rfl, rfl⟩)
  | 8, _ => (go_enter Tryd.func67, Tryd.ntmps67; go_wp2; go_ret; exact ⟨rfl, rfl⟩)
  | 9, _ => (go_enter Tryd.func67, Tryd.ntmps67; go_wp2; go_ret; exact ⟨rfl, rfl⟩)
  | 10, _ => (go_enter Tryd.func67, Tryd.ntmps67; go_wp2; go_ret; exact ⟨rfl, rfl⟩)
  | 11, _ => (go_enter Tryd.func67, Tryd.ntmps67; go_wp2; go_ret; exact ⟨rfl, rfl⟩)
set_option maxHeartbeats 400000 in
theorem readCol_any {w : World} {b g cap len : Nat} {toks : List Pq.Tok} {vb vk vf : Value} {s : Pq.PS} (h : PIn w b g cap len toks vb vk vf s) :
    Calls Tryd.prog 61 #[.pointer (some ⟨b, 0, none⟩)] w fun e w' => e = .returned (.int .i64 (Pq.oneOfV toks Pq.colTxt 3 s : Nat)) ∧ PIn w' b g cap len toks vb vk vf (Pq.oneOfS toks Pq.colTxt 3 s) ∧ Gb b w w' := by
  have H := hide h
  clear h
  go_enter Tryd.func61, Tryd.ntmps61
  go_wp2
  go_loopw [3] (fun i wr => ∃ k : Nat, k ≤ 3 ∧ i = .int .i64 k ∧ Hid (PIn wr b g cap len toks vb vk vf s ∧ Gb b w wr ∧ ∀ j, j < k → Pq.takes toks (Pq.colTxt j) s = false)) (fun i _ => 3 - (intOf i).toNat)
  case atStart => exact ⟨0, by omega, rfl, H.out, Gb.refl _ _, fun j hj => by omega⟩
  case round =>
    obtain ⟨k, hk, rfl, HR⟩ := hrel
    by_cases hlt : k < 3
    · cases ht : Pq.takes toks (Pq.colTxt k) s
      · go_wp2_with (first | (go_at_call 49; refine (colName_any k hlt _).mono ?_; rintro e w' ⟨rfl, rfl⟩) | (go_at_call 41; refine (take_any HR.out.1 _).mono ?_; rintro e w1 ⟨rfl, h1, g1⟩; have H1 := hide h1; clear h1))
        go_roundw
        case rel =>
          refine ⟨k + 1, by omega, by go_num, by have := H1.out; rwa [Pq.takeS_no ht] at this, HR.out.2.1.trans g1, fun j hj => ?_⟩
          rcases Nat.lt_or_eq_of_le (Nat.le_of_lt_succ hj) with hj | rfl
          · exact HR.out.2.2 j hj
          · exact ht
        case measure => simp [intOf]; omega
      · have HF := hide (Pq.firstTake_some hlt HR.out.2.2 ht)
        go_wp2_with (first | (go_at_call 49; refine (colName_any k hlt _).mono ?_; rintro e w' ⟨rfl, rfl⟩) | (go_at_call 41; refine (take_any HR.out.1 _).mono ?_; rintro e w1 ⟨rfl, h1, g1⟩; have H1 := hide h1; clear h1))
        go_ret
        unfold Pq.oneOfV Pq.oneOfS
        rw [HF.out]
        exact ⟨rfl, by have := H1.out; simpa [Pq.takeS, ht] using this, HR.out.2.1.trans g1⟩
    · have hk3 : k = 3 := by omega
      have HF := hide (Pq.firstTake_none (n := 3) (fun j hj => HR.out.2.2 j (by omega)))
      have hfz := HR.out.1.frozen 3
      have hc3 := HR.out.1.cells.2.2.2
      clear hk3
      go_wp2
      go_ret
      unfold Pq.oneOfV Pq.oneOfS
      rw [HF.out]
      exact ⟨rfl, HR.out.1.fail, HR.out.2.1.set _ _⟩
end Go.Proofs.YtcoofnhdbejnpaaDoor
