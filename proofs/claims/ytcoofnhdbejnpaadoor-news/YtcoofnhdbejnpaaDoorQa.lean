/- The leaves of package queries: what they answer. -/
import Derived.Test.YtcoofnhdbejnpaaDoorProg
import Derived.Test.YtcoofnhdbejnpaaDoorPlainA
import Derived.WalkSpells
import Derived.WalkLawsBesides
namespace Go.Proofs.YtcoofnhdbejnpaaDoor
open Go.RowKit
theorem hide {p : Prop} (h : p) : Hid p := h
set_option maxHeartbeats 400000 in
theorem isBlank_any (c : UInt8) (w : World) :
    Calls Tryd.prog 38 #[.int .u8 (c.toNat : Int)] w fun e w' => e = .returned (.bool (Pq.isBlk c)) ∧ w' = w := by
  unfold Pq.isBlk
  go_enter Tryd.func38, Tryd.ntmps38
  go_wp2
  all_goals (go_ret; first | (simp [*]; done) | (simp [*]; omega))
set_option maxHeartbeats 400000 in
theorem isSign_any (c : UInt8) (w : World) :
    Calls Tryd.prog 57 #[.int .u8 (c.toNat : Int)] w fun e w' => e = .returned (.bool (Pq.isSgn c)) ∧ w' = w := by
  unfold Pq.isSgn
  go_enter Tryd.func57, Tryd.ntmps57
  go_wp2
  all_goals (go_ret; first | (simp [*]; done) | (simp [*]; omega))
set_option maxHeartbeats 400000 in
theorem isDigit_any (c : UInt8) (w : World) :
    Calls Tryd.prog 40 #[.int .u8 (c.toNat : Int)] w fun e w' => e = .returned (.bool (Pq.isDig c)) ∧ w' = w := by
  unfold Pq.isDig
  go_enter Tryd.func40, Tryd.ntmps40
  go_wp2
  all_goals (go_ret; first | (simp [*]; done) | (simp [*]; omega))
set_option maxHeartbeats 400000 in
theorem isLetter_any (c : UInt8) (w : World) :
    Calls Tryd.prog 59 #[.int .u8 (c.toNat : Int)] w fun e w' => e = .returned (.bool (Pq.isLet c)) ∧ w' = w := by
  unfold Pq.isLet
  go_enter Tryd.func59, Tryd.ntmps59
  go_wp2
  all_goals (go_ret; first | (simp [*]; done) | (simp [*]; omega))
set_option maxHeartbeats 400000 in
theorem digitsEnd_any (s : ByteArray) (n : Nat) (w : World) (hs : s.size ≤ maxLen) (hn : n ≤ s.size) :
    Calls Tryd.prog 58 #[.string s, .int .i64 n] w fun e w' => e = .returned (.int .i64 (Pq.rowEnd Pq.isDig s.data.toList n : Nat)) ∧ w' = w := by
  unfold maxLen at hs
  go_enter Tryd.func58, Tryd.ntmps58
  go_wp2
  go_loop [1] (fun i => ∃ k : Nat, k ≤ s.size ∧ i = .int .i64 k ∧ Hid (Pq.rowEnd Pq.isDig s.data.toList n = Pq.rowEnd Pq.isDig s.data.toList k)) (fun i => s.size - (intOf i).toNat)
  case atStart => exact ⟨n, hn, rfl, rfl⟩
  case round =>
    obtain ⟨k, hk, rfl, HE⟩ := hrel
    by_cases hlt : k < s.size
    · have hl : k < s.data.toList.length := by simpa using hlt
      by_cases hd : Pq.isDig s[k] = true
      · go_wp2_with (go_at_call 40; refine (isDigit_any _ _).mono ?_; rintro e w' ⟨rfl, rfl⟩)
        go_round
        case rel => exact ⟨k + 1, by omega, by go_num, HE.out.trans (Pq.rowEnd_step hl hd)⟩
        case measure => simp [intOf]; omega
      · have hd' : Pq.isDig s[k] = false := by simpa using hd
        go_wp2_with (go_at_call 40; refine (isDigit_any _ _).mono ?_; rintro e w' ⟨rfl, rfl⟩)
        go_ret
        refine ⟨?_, rfl⟩
        rw [HE.out, Pq.rowEnd_stop hl hd']; rfl
    · go_wp2
      go_ret
      refine ⟨?_, rfl⟩
      rw [HE.out, Pq.rowEnd_end (by simpa using hlt)]; rfl
set_option maxHeartbeats 400000 in
theorem lettersEnd_any (s : ByteArray) (n : Nat) (w : World) (hs : s.size ≤ maxLen) (hn : n ≤ s.size) :
    Calls Tryd.prog 60 #[.string s, .int .i64 n] w fun e w' => e = .returned (.int .i64 (Pq.rowEnd Pq.isLet s.data.toList n : Nat)) ∧ w' = w := by
  unfold maxLen at hs
  go_enter Tryd.func60, Tryd.ntmps60
  go_wp2
  go_loop [1] (fun i => ∃ k : Nat, k ≤ s.size ∧ i = .int .i64 k ∧ Hid (Pq.rowEnd Pq.isLet s.data.toList n = Pq.rowEnd Pq.isLet s.data.toList k)) (fun i => s.size - (intOf i).toNat)
  case atStart => exact ⟨n, hn, rfl, rfl⟩
  case round =>
    obtain ⟨k, hk, rfl, HE⟩ := hrel
    by_cases hlt : k < s.size
    · have hl : k < s.data.toList.length := by simpa using hlt
      by_cases hd : Pq.isLet s[k] = true
      · go_wp2_with (go_at_call 59; refine (isLetter_any _ _).mono ?_; rintro e w' ⟨rfl, rfl⟩)
        go_round
        case rel => exact ⟨k + 1, by omega, by go_num, HE.out.trans (Pq.rowEnd_step hl hd)⟩
        case measure => simp [intOf]; omega
      · have hd' : Pq.isLet s[k] = false := by simpa using hd
        go_wp2_with (go_at_call 59; refine (isLetter_any _ _).mono ?_; rintro e w' ⟨rfl, rfl⟩)
        go_ret
        refine ⟨?_, rfl⟩
        rw [HE.out, Pq.rowEnd_stop hl hd']; rfl
    · go_wp2
      go_ret
      refine ⟨?_, rfl⟩
      rw [HE.out, Pq.rowEnd_end (by simpa using hlt)]; rfl
set_option maxHeartbeats 400000 in
theorem tokenEnd_any (s : ByteArray) (n : Nat) (w : World) (hs : s.size ≤ maxLen) (hn : n ≤ s.size) :
    Calls Tryd.prog 39 #[.string s, .int .i64 n] w fun e w' => e = .returned (.int .i64 (Pq.tokEnd s.data.toList n : Nat)) ∧ w' = w := by
  have hs' := hs
  unfold maxLen at hs
  by_cases hlt : n < s.size
  · have hl : n < s.data.toList.length := by simpa using hlt
    have h1 := Pq.rowEnd_ge Pq.isDig s.data.toList n; have h2 := Pq.rowEnd_ge Pq.isLet s.data.toList n
    have h3 := Pq.rowEnd_le Pq.isDig s.data.toList n (by omega); have h4 := Pq.rowEnd_le Pq.isLet s.data.toList n (by omega)
    have hz : s.data.toList.length = s.size := by simp
    rw [hz] at h3 h4
    clear hz
    have he : Hid (Pq.tokEnd s.data.toList n = if Pq.isSgn s[n] then n + 1 else if Pq.isDig s[n] then (if Pq.rowEnd Pq.isDig s.data.toList n - n > 2 then n else Pq.rowEnd Pq.isDig s.data.toList n)
        else if Pq.isLet s[n] then (if Pq.rowEnd Pq.isLet s.data.toList n - n > 8 then n else Pq.rowEnd Pq.isLet s.data.toList n) else n) := by
      show _ = _; unfold Pq.tokEnd; rw [dif_pos hl]; rfl
    cases hS : Pq.isSgn s[n]
    · cases hD : Pq.isDig s[n]
      · cases hL : Pq.isLet s[n]
        · go_enter Tryd.func39, Tryd.ntmps39
          go_wp2_with (first | (go_at_call 57; refine (isSign_any _ _).mono ?_; rintro e w' ⟨rfl, rfl⟩) | (go_at_call 40; refine (isDigit_any _ _).mono ?_; rintro e w' ⟨rfl, rfl⟩) | (go_at_call 59; refine (isLetter_any _ _).mono ?_; rintro e w' ⟨rfl, rfl⟩) | (go_at_call 58; refine (digitsEnd_any _ _ _ hs' hn).mono ?_; rintro e w' ⟨rfl, rfl⟩) | (go_at_call 60; refine (lettersEnd_any _ _ _ hs' hn).mono ?_; rintro e w' ⟨rfl, rfl⟩))
          go_ret
          refine ⟨?_, rfl⟩
          rw [he.out]; simp [hS, hD, hL]
        · by_cases h8 : Pq.rowEnd Pq.isLet s.data.toList n - n > 8
          all_goals
            go_enter Tryd.func39, Tryd.ntmps39
            go_wp2_with (first | (go_at_call 57; refine (isSign_any _ _).mono ?_; rintro e w' ⟨rfl, rfl⟩) | (go_at_call 40; refine (isDigit_any _ _).mono ?_; rintro e w' ⟨rfl, rfl⟩) | (go_at_call 59; refine (isLetter_any _ _).mono ?_; rintro e w' ⟨rfl, rfl⟩) | (go_at_call 58; refine (digitsEnd_any _ _ _ hs' hn).mono ?_; rintro e w' ⟨rfl, rfl⟩) | (go_at_call 60; refine (lettersEnd_any _ _ _ hs' hn).mono ?_; rintro e w' ⟨rfl, rfl⟩))
            go_ret
            refine ⟨?_, rfl⟩
            rw [he.out]; simp [hS, hD, hL, h8]
      · by_cases h8 : Pq.rowEnd Pq.isDig s.data.toList n - n > 2
        all_goals
          go_enter Tryd.func39, Tryd.ntmps39
          go_wp2_with (first | (go_at_call 57; refine (isSign_any _ _).mono ?_; rintro e w' ⟨rfl, rfl⟩) | (go_at_call 40; refine (isDigit_any _ _).mono ?_; rintro e w' ⟨rfl, rfl⟩) | (go_at_call 59; refine (isLetter_any _ _).mono ?_; rintro e w' ⟨rfl, rfl⟩) | (go_at_call 58; refine (digitsEnd_any _ _ _ hs' hn).mono ?_; rintro e w' ⟨rfl, rfl⟩) | (go_at_call 60; refine (lettersEnd_any _ _ _ hs' hn).mono ?_; rintro e w' ⟨rfl, rfl⟩))
          go_ret
          refine ⟨?_, rfl⟩
          rw [he.out]; simp [hS, hD, h8]
    · go_enter Tryd.func39, Tryd.ntmps39
      go_wp2_with (first | (go_at_call 57; refine (isSign_any _ _).mono ?_; rintro e w' ⟨rfl, rfl⟩) | (go_at_call 40; refine (isDigit_any _ _).mono ?_; rintro e w' ⟨rfl, rfl⟩) | (go_at_call 59; refine (isLetter_any _ _).mono ?_; rintro e w' ⟨rfl, rfl⟩) | (go_at_call 58; refine (digitsEnd_any _ _ _ hs' hn).mono ?_; rintro e w' ⟨rfl, rfl⟩) | (go_at_call 60; refine (lettersEnd_any _ _ _ hs' hn).mono ?_; rintro e w' ⟨rfl, rfl⟩))
      go_ret
      refine ⟨?_, rfl⟩
      rw [he.out]; simp [hS]
  · go_enter Tryd.func39, Tryd.ntmps39
    go_wp2
    go_ret
    refine ⟨?_, rfl⟩
    unfold Pq.tokEnd; rw [dif_neg (by simpa using hlt)]; rfl
end Go.Proofs.YtcoofnhdbejnpaaDoor
