/- Package queries: functions as texts. -/
import Derived.Test.YtcoofnhdbejnpaaDoorRb
namespace Go.Proofs.YtcoofnhdbejnpaaDoor
open Go.RowKit
set_option maxHeartbeats 2000000 in
theorem fnText_any (x : Pq.Fn) (hx : Pq.goodFn x) (w : World) :
    Calls Tryd.prog 50 #[.agg #[.int .i64 (x.kind : Int), .int .i64 (x.col : Int), .int .i64 x.num, .int .i64 (x.frame.kind : Int), .int .i64 x.frame.num, .int .i64 (x.frame.frm.kind : Int), .int .i64 x.frame.frm.num, .int .i64 (x.frame.to.kind : Int), .int .i64 x.frame.to.num]] w fun e w' => e = .returned (.string ⟨(Pq.fnTxt x).toArray⟩) ∧ Below w.heap.size w w' := by
  obtain ⟨k, c, n, f⟩ := x
  obtain ⟨hk, hc, ⟨h0, h1⟩, hf⟩ := hx
  simp only at hk hc h0 h1 hf ⊢
  have HF := hide hf
  clear hf
  have hl := Pq.numTxt_len n
  have hlk := Pq.kindTxt_len k
  have hlc := Nat.le_of_eq (Pq.colTxt_len c)
  have hlf := Pq.frameTxt_len f
  by_cases e3 : k < 3
  · have HE : Hid (Pq.fnTxt ⟨k, c, n, f⟩ = Pq.kindTxt k) := by show _ = _; simp [Pq.fnTxt, e3]
    obtain rfl | rfl | rfl : k = 0 ∨ k = 1 ∨ k = 2 := by omega
    all_goals
      go_enter Tryd.func50, Tryd.ntmps50
      go_wp2_with (go_at_call 67; refine (kindName_any _ hk _).mono ?_; rintro e w1 ⟨rfl, rfl⟩)
      go_ret
      rw [HE.out]
      exact ⟨rfl, (Below.refl _ _).alloc (Nat.le_refl _) _⟩
  · by_cases e4 : k = 3
    · subst e4
      have HE : Hid (Pq.fnTxt ⟨3, c, n, f⟩ = Pq.kindTxt 3 ++ (Pq.wOpen ++ Pq.numTxt n) ++ Pq.wClose) := hide rfl
      go_enter Tryd.func50, Tryd.ntmps50
      go_wp2_with (first | (go_at_call 67; refine (kindName_any _ hk _).mono ?_; rintro e w1 ⟨rfl, rfl⟩) | (go_at_call 49; refine (colName_any c hc _).mono ?_; rintro e w1 ⟨rfl, rfl⟩) | (go_at_call 25; refine (itoa_any n h0 h1 _).mono ?_; rintro e w1 ⟨rfl, rfl⟩) | (go_at_call 68; refine (frameText_any f HF.out _).mono ?_; rintro e w2 ⟨rfl, b2⟩; have hsz := HSZ.out; rw [hsz] at b2; have B2 := (((Below.refl w.heap.size w).alloc (Nat.le_refl _) _).trans (b2.mono (Nat.le_succ _))); clear b2))
      go_ret
      rw [HE.out]
      exact ⟨ret_str (by simp [Pq.wOpen, Pq.wClose]), (Below.refl _ _).alloc (Nat.le_refl _) _⟩
    · by_cases e6 : k < 6
      · have HE : Hid (Pq.fnTxt ⟨k, c, n, f⟩ = Pq.kindTxt k ++ (Pq.wOpen ++ Pq.colTxt c) ++ (Pq.wComma ++ 32 :: Pq.numTxt n) ++ Pq.wClose) := by show _ = _; simp [Pq.fnTxt, e3, e4, e6]
        obtain rfl | rfl : k = 4 ∨ k = 5 := by omega
        all_goals
          go_enter Tryd.func50, Tryd.ntmps50
          go_wp2_with (first | (go_at_call 67; refine (kindName_any _ hk _).mono ?_; rintro e w1 ⟨rfl, rfl⟩) | (go_at_call 49; refine (colName_any c hc _).mono ?_; rintro e w1 ⟨rfl, rfl⟩) | (go_at_call 25; refine (itoa_any n h0 h1 _).mono ?_; rintro e w1 ⟨rfl, rfl⟩) | (go_at_call 68; refine (frameText_any f HF.out _).mono ?_; rintro e w2 ⟨rfl, b2⟩; have hsz := HSZ.out; rw [hsz] at b2; have B2 := (((Below.refl w.heap.size w).alloc (Nat.le_refl _) _).trans (b2.mono (Nat.le_succ _))); clear b2))
          go_ret
          rw [HE.out]
          exact ⟨ret_str (by simp [Pq.wOpen, Pq.wClose, Pq.wComma]), (Below.refl _ _).alloc (Nat.le_refl _) _⟩
      · have HE : Hid (Pq.fnTxt ⟨k, c, n, f⟩ = Pq.kindTxt k ++ (Pq.wOpen ++ Pq.colTxt c) ++ (Pq.wComma ++ 32 :: Pq.frameTxt f) ++ Pq.wClose) := by show _ = _; simp [Pq.fnTxt, e3, e4, e6]
        have hk6 : 6 ≤ k := by omega
        clear e3 e4 e6
        have HSZ : Hid ((w.alloc (.cells #[.int .i64 (k : Int), .int .i64 (c : Int), .int .i64 n, .int .i64 (f.kind : Int), .int .i64 f.num, .int .i64 (f.frm.kind : Int), .int .i64 f.frm.num, .int .i64 (f.to.kind : Int), .int .i64 f.to.num] 118)).heap.size = w.heap.size + 1) := by show _ = _; simp
        go_enter Tryd.func50, Tryd.ntmps50
        go_wp2_with (first | (go_at_call 67; refine (kindName_any _ hk _).mono ?_; rintro e w1 ⟨rfl, rfl⟩) | (go_at_call 49; refine (colName_any c hc _).mono ?_; rintro e w1 ⟨rfl, rfl⟩) | (go_at_call 25; refine (itoa_any n h0 h1 _).mono ?_; rintro e w1 ⟨rfl, rfl⟩) | (go_at_call 68; refine (frameText_any f HF.out _).mono ?_; rintro e w2 ⟨rfl, b2⟩; have hsz := HSZ.out; rw [hsz] at b2; have B2 := (((Below.refl w.heap.size w).alloc (Nat.le_refl _) _).trans (b2.mono (Nat.le_succ _))); clear b2))
        go_ret
        rw [HE.out]
        exact ⟨ret_str (by simp [Pq.wOpen, Pq.wClose, Pq.wComma]), B2⟩
end Go.Proofs.YtcoofnhdbejnpaaDoor
