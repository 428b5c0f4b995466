/- Package paneskeep: values. -/
import Derived.Test.YtcoofnhdbejnpaaGreatDoorG19
import Derived.Test.YtcoofnhdbejnpaaGreatDoorG47
namespace Go.Proofs.YtcoofnhdbejnpaaGreatDoor
open Go.RowKit
theorem scan_bd : ∀ (l : Pq.Bytes) (st : Int × Int), st.1 - l.length ≤ (l.foldl Pk.scanC st).1 ∧ (l.foldl Pk.scanC st).1 ≤ st.1 + l.length ∧ st.2 ≤ (l.foldl Pk.scanC st).2 ∧ (l.foldl Pk.scanC st).2 ≤ st.2 + l.length
  | [], st => by simp
  | c :: l, st => by
    have ih := scan_bd l (Pk.scanC st c)
    rw [List.foldl_cons, List.length_cons]
    have h : st.1 - 1 ≤ (Pk.scanC st c).1 ∧ (Pk.scanC st c).1 ≤ st.1 + 1 ∧ st.2 ≤ (Pk.scanC st c).2 ∧ (Pk.scanC st c).2 ≤ st.2 + 1 := by
      unfold Pk.scanC
      split
      · simp only []; omega
      · split
        · simp only []; omega
        · split
          · simp only []; omega
          · omega
    omega
theorem u8_eq (c : UInt8) (n : Nat) (hn : n < 256) : (((c.toNat : Int) == (n : Int)) = true ↔ c = UInt8.ofNat n) := by
  constructor
  · intro h
    have h1 : (c.toNat : Int) = (n : Int) := by simpa using h
    have h2 : c.toNat = n := by omega
    rw [← h2]; simp
  · intro h
    rw [h]
    simp [Nat.mod_eq_of_lt hn]
theorem ext_show {s : ByteArray} {pre post : Pq.Bytes} (h : s.data.toList = pre ++ ([115, 104, 111, 119] ++ post)) (hw : (119 : UInt8) ∉ post) (k : Nat) : (((s.extract k (k + 4)).toList == [115, 104, 111, 119]) = true → k ≤ pre.length) ∧ (((s.extract k (k + 4)).toList == [115, 104, 111, 119]) = false → k ≠ pre.length) := by
  have e0 : (s.extract k (k + 4)).toList = ((pre ++ ([115, 104, 111, 119] ++ post)).take (k + 4)).drop k := by
    rw [ByteArray.toList_eq, extract_eq, h]
  rw [e0]
  refine ⟨fun e => ?_, fun e hk => ?_⟩
  · refine Classical.byContradiction fun hk => hw ?_
    have e2 : ((pre ++ ([115, 104, 111, 119] ++ post)).take (k + 4)).drop k = [115, 104, 111, 119] := by simpa using e
    have h3 : (((pre ++ ([115, 104, 111, 119] ++ post)).take (k + 4)).drop k)[3]? = some 119 := by rw [e2]; rfl
    rw [List.getElem?_drop, List.getElem?_take] at h3
    rw [if_pos (by omega), List.getElem?_append_right (by omega), List.getElem?_append_right (by simp; omega)] at h3
    exact List.mem_of_getElem? h3
  · subst hk
    have e2 : ((pre ++ ([115, 104, 111, 119] ++ post)).take (pre.length + 4)).drop pre.length = [115, 104, 111, 119] := by
      rw [List.drop_take, List.drop_left]
      simp
    rw [e2] at e
    revert e; decide
/-- what is counted from show on, up to here -/
def scanTo (post : Pq.Bytes) (j : Nat) : Int × Int := ((([115, 104, 111, 119] : Pq.Bytes) ++ post).take j).foldl Pk.scanC (0, 1)
theorem scanTo_succ {s : ByteArray} {pre post : Pq.Bytes} (h : s.data.toList = pre ++ ([115, 104, 111, 119] ++ post)) (k : Nat) (hk : k < s.size) (hp : pre.length ≤ k) : scanTo post (k + 1 - pre.length) = Pk.scanC (scanTo post (k - pre.length)) s[k] := by
  have hlen : s.size = pre.length + (4 + post.length) := by
    have e := congrArg List.length h
    simp at e
    omega
  have hj : k - pre.length < (([115, 104, 111, 119] : Pq.Bytes) ++ post).length := by simp; omega
  have e1 : k + 1 - pre.length = (k - pre.length) + 1 := by omega
  unfold scanTo
  rw [e1, List.take_succ_eq_append_getElem hj, List.foldl_append]
  have e2 : (([115, 104, 111, 119] : Pq.Bytes) ++ post)[k - pre.length] = s[k] := by
    have h1 : s[k] = s.data.toList[k]'(by simpa using hk) := by
      show s.data[k] = _
      simp
    rw [h1]
    simp only [h]
    rw [List.getElem_append_right hp]
  rw [e2]
  rfl
theorem scanTo_end (post : Pq.Bytes) {j : Nat} (hj : 4 + post.length ≤ j) : scanTo post j = post.foldl Pk.scanC (0, 1) := by
  unfold scanTo
  rw [List.take_of_length_le (by simp; omega), List.foldl_append]
  rfl
theorem scanTo_bd (post : Pq.Bytes) (j : Nat) (h : post.length ≤ 300) : -400 ≤ (scanTo post j).1 ∧ (scanTo post j).1 ≤ 400 ∧ 0 ≤ (scanTo post j).2 ∧ (scanTo post j).2 ≤ 400 := by
  have := scan_bd ((([115, 104, 111, 119] : Pq.Bytes) ++ post).take j) (0, 1)
  unfold scanTo
  have hl : ((([115, 104, 111, 119] : Pq.Bytes) ++ post).take j).length ≤ 304 := by
    rw [List.length_take]; simp; omega
  simp only [] at this
  omega
set_option maxRecDepth 100000 in
set_option maxHeartbeats 2000000 in
theorem values_any {s : ByteArray} {pre post : Pq.Bytes} (h : s.data.toList = pre ++ ([115, 104, 111, 119] ++ post)) (hw : (119 : UInt8) ∉ post) (hl : s.size ≤ 300) (w : World) :
    Calls Tryz.prog 23 #[.string s] w fun e w' => e = .returned (.int .i64 (post.foldl Pk.scanC (0, 1)).2) ∧ w' = w := by
  have hsz : s.size = pre.length + 4 + post.length := by
    have e := congrArg List.length h
    simp at e
    omega
  have HS := hide (ext_show h hw)
  have HH := hide h
  clear h hw
  go_enter Tryz.func23, Tryz.ntmps23
  go_wp2
  go_loop [5, 6] (fun v i => ∃ k a : Nat, k ≤ s.size ∧ a ≤ s.size ∧ i = .int .i64 k ∧ v = .int .i64 a ∧ (pre.length < k → a = pre.length)) (fun _ i => s.size - (intOf i).toNat)
  case atStart => exact ⟨0, 0, by omega, by omega, rfl, rfl, fun h => by omega⟩
  case round =>
    obtain ⟨k, a, hk, ha, rfl, rfl, hka⟩ := hrel
    by_cases hlt : k + 4 ≤ s.size
    · have hlt' : (k : Int) + 4 ≤ (s.size : Int) := by omega
      obtain ⟨hx1, hx2⟩ := HS.out k
      cases hz : ((s.extract k (k + 4)).toList == [115, 104, 111, 119])
      · have hne := hx2 hz
        clear hx1 hx2
        go_wp2
        go_round
        case rel => exact ⟨k + 1, a, by omega, by omega, by go_num, rfl, fun h => hka (by omega)⟩
        case measure => simp [intOf]; omega
      · have hle := hx1 hz
        clear hx1 hx2
        go_wp2
        go_round
        case rel => exact ⟨k + 1, k, by omega, by omega, by go_num, rfl, fun h => by omega⟩
        case measure => simp [intOf]; omega
    · have hlt' : ¬ (k : Int) + 4 ≤ (s.size : Int) := by omega
      obtain rfl := hka (by omega)
      go_wp2
      go_loop [3, 4, 7] (fun n o i => ∃ k : Nat, pre.length ≤ k ∧ k ≤ s.size ∧ i = .int .i64 k ∧ n = .int .i64 (scanTo post (k - pre.length)).2 ∧ o = .int .i64 (scanTo post (k - pre.length)).1) (fun _ _ i => s.size - (intOf i).toNat)
      case atStart => exact ⟨pre.length, by omega, by omega, rfl, by rw [Nat.sub_self]; rfl, by rw [Nat.sub_self]; rfl⟩
      case round =>
        obtain ⟨k2, hk2, hk3, rfl, rfl, rfl⟩ := hrel
        have HBD := scanTo_bd post (k2 - pre.length) (by omega)
        by_cases hlt2 : k2 < s.size
        · have hlt2' : (k2 : Int) < (s.size : Int) := by omega
          have HST := hide (scanTo_succ HH.out k2 hlt2 hk2)
          generalize scanTo post (k2 - pre.length) = st at *
          obtain ⟨o, n⟩ := st
          simp only [] at HBD
          by_cases h40 : s[k2] = 40
          · have q1 : ((s[k2].toNat : Int) == 40) = true := by rw [h40]; rfl
            have HS2 : Hid (scanTo post (k2 + 1 - pre.length) = (o + 1, n)) := by show _ = _; rw [HST.out]; unfold Pk.scanC; rw [if_pos h40]
            go_wp2
            go_round
            case rel => exact ⟨k2 + 1, by omega, by omega, by go_num, by rw [HS2.out], by rw [HS2.out]⟩
            case measure => simp [intOf]; omega
          · have q1 : ((s[k2].toNat : Int) == 40) = false := by
              rw [Bool.eq_false_iff]; intro q; exact h40 ((u8_eq s[k2] 40 (by omega)).1 q)
            by_cases h41 : s[k2] = 41
            · have q2 : ((s[k2].toNat : Int) == 41) = true := by rw [h41]; rfl
              have HS2 : Hid (scanTo post (k2 + 1 - pre.length) = (o - 1, n)) := by show _ = _; rw [HST.out]; unfold Pk.scanC; rw [if_neg h40, if_pos h41]
              go_wp2
              go_round
              case rel => exact ⟨k2 + 1, by omega, by omega, by go_num, by rw [HS2.out], by rw [HS2.out]⟩
              case measure => simp [intOf]; omega
            · have q2 : ((s[k2].toNat : Int) == 41) = false := by
                rw [Bool.eq_false_iff]; intro q; exact h41 ((u8_eq s[k2] 41 (by omega)).1 q)
              by_cases h44 : s[k2] = 44
              · have q3 : ((s[k2].toNat : Int) == 44) = true := by rw [h44]; rfl
                by_cases ho : o = 0
                · subst ho
                  have HS2 : Hid (scanTo post (k2 + 1 - pre.length) = (0, n + 1)) := by show _ = _; rw [HST.out]; unfold Pk.scanC; rw [if_neg h40, if_neg h41, if_pos ⟨h44, rfl⟩]
                  go_wp2
                  go_round
                  case rel => exact ⟨k2 + 1, by omega, by omega, by go_num, by rw [HS2.out], by rw [HS2.out]⟩
                  case measure => simp [intOf]; omega
                · have q4 : (o == 0) = false := by simp [ho]
                  have HS2 : Hid (scanTo post (k2 + 1 - pre.length) = (o, n)) := by show _ = _; rw [HST.out]; unfold Pk.scanC; rw [if_neg h40, if_neg h41, if_neg (fun q => ho q.2)]
                  go_wp2
                  go_round
                  case rel => exact ⟨k2 + 1, by omega, by omega, by go_num, by rw [HS2.out], by rw [HS2.out]⟩
                  case measure => simp [intOf]; omega
              · have q3 : ((s[k2].toNat : Int) == 44) = false := by
                  rw [Bool.eq_false_iff]; intro q; exact h44 ((u8_eq s[k2] 44 (by omega)).1 q)
                have HS2 : Hid (scanTo post (k2 + 1 - pre.length) = (o, n)) := by show _ = _; rw [HST.out]; unfold Pk.scanC; rw [if_neg h40, if_neg h41, if_neg (fun q => h44 q.1)]
                go_wp2
                go_round
                case rel => exact ⟨k2 + 1, by omega, by omega, by go_num, by rw [HS2.out], by rw [HS2.out]⟩
                case measure => simp [intOf]; omega
        · have hlt2' : ¬ (k2 : Int) < (s.size : Int) := by omega
          have HSE := hide (scanTo_end post (j := k2 - pre.length) (by omega))
          go_wp2
          go_ret
          exact ⟨by rw [← HSE.out]; rfl, rfl⟩
end Go.Proofs.YtcoofnhdbejnpaaGreatDoor

