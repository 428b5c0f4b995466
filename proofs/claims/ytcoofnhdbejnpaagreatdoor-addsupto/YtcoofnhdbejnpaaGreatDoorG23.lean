/- Package lines: firstPeer, lastPeer, groupsUpTo. -/
import Derived.Test.YtcoofnhdbejnpaaGreatDoorG22
namespace Go.Proofs.YtcoofnhdbejnpaaGreatDoor
open Go.RowKit
/-- what a line must keep to -/
structure LnOk (ks : List (Nat × Bool)) (L : List Pv.R3) : Prop where
  kl : ks.length ≤ 1000
  kc : ∀ k ∈ ks, k.1 < 3
  ll : L.length ≤ 100000
  k0 : ks ≠ []
  row : ∀ r ∈ L, ∀ c, -1000 ≤ Pv.colV c r ∧ Pv.colV c r ≤ 1000
  srt : Pv.SrtL ks L
set_option maxRecDepth 100000 in
set_option maxHeartbeats 1000000 in
theorem lfirst_any {w : World} {g o : Nat} {vk vc : Value} {ks : List (Nat × Bool)} {L : List Pv.R3} (h : LnAt w g o vk vc ks L) (hk : LnOk ks L) (i : Nat) (hi : i < L.length) :
    Calls Tryz.prog 176 #[.pointer (some ⟨g, o, none⟩), .int .i64 ((i : Int) + 1)] w fun e w' => Below w.heap.size w w' ∧ ∃ a : Nat, a ≤ i ∧ Pv.endsP ks L (a : Nat) = true ∧ (∀ j : Nat, a < j → j ≤ i → Pv.endsP ks L (j : Nat) = false) ∧ e = .returned (.int .i64 ((a : Int) + 1)) := by
  have HH := hide h
  have HK := hide hk
  have hll := hk.ll
  clear h hk
  go_enter Tryz.func176, Tryz.ntmps176
  go_wp2_with fail
  go_loopw [1] (fun r wr => ∃ a : Nat, a ≤ i ∧ r = .int .i64 ((a : Int) + 1) ∧ Below w.heap.size w wr ∧ Hid (∀ j : Nat, a < j → j ≤ i → Pv.endsP ks L (j : Nat) = false)) (fun r _ => (intOf r).toNat)
  case atStart => exact ⟨i, Nat.le_refl _, rfl, Below.refl _ _, fun j h1 h2 => by omega⟩
  case round =>
    obtain ⟨a, ha, rfl, hb, HN⟩ := hrel
    have B1 := hide hb
    clear hb
    go_wp2_with fail
    refine (lends_any (HH.out.below B1.out) HK.out.kl HK.out.kc HK.out.ll (a : Int) (by omega) (by omega)).mono ?_
    rintro e w3 ⟨rfl, e3⟩
    have B3 := hide (B1.out.trans (e3.mono B1.out.size))
    clear e3
    cases he : Pv.endsP ks L (a : Int)
    · have h0 : 0 < a := by
        rcases Nat.eq_zero_or_pos a with h | h
        · subst h
          rw [Pv.endsP_out ks L _ (.inl (by omega))] at he; cases he
        · exact h
      obtain ⟨b, rfl⟩ : ∃ b, a = b + 1 := ⟨a - 1, by omega⟩
      have HE : Hid (Pv.endsP ks L ((b + 1 : Nat) : Int) = false) := he
      go_wp2
      go_roundw
      case rel =>
        refine ⟨b, by omega, by go_num, B3.out, fun j h1 h2 => ?_⟩
        rcases Nat.lt_or_ge (b + 1) j with h3 | h3
        · exact HN.out j h3 h2
        · obtain rfl : j = b + 1 := by omega
          exact HE.out
      case measure => simp [intOf]; omega
    · have HE : Hid (Pv.endsP ks L (a : Int) = true) := he
      go_wp2
      go_ret
      exact ⟨B3.out, a, ha, HE.out, HN.out, rfl⟩
set_option maxRecDepth 100000 in
set_option maxHeartbeats 1000000 in
theorem llast_any {w : World} {g o : Nat} {vk vc : Value} {ks : List (Nat × Bool)} {L : List Pv.R3} (h : LnAt w g o vk vc ks L) (hk : LnOk ks L) (i : Nat) (hi : i < L.length) :
    Calls Tryz.prog 201 #[.pointer (some ⟨g, o, none⟩), .int .i64 ((i : Int) + 1)] w fun e w' => Below w.heap.size w w' ∧ ∃ b : Nat, i < b ∧ b ≤ L.length ∧ Pv.endsP ks L (b : Nat) = true ∧ (∀ j : Nat, i < j → j < b → Pv.endsP ks L (j : Nat) = false) ∧ e = .returned (.int .i64 (b : Int)) := by
  have HH := hide h
  have HK := hide hk
  have hll := hk.ll
  clear h hk
  go_enter Tryz.func201, Tryz.ntmps201
  go_wp2_with fail
  go_loopw [1] (fun r wr => ∃ b : Nat, i < b ∧ b ≤ L.length ∧ r = .int .i64 (b : Int) ∧ Below w.heap.size w wr ∧ Hid (∀ j : Nat, i < j → j < b → Pv.endsP ks L (j : Nat) = false)) (fun r _ => L.length - (intOf r).toNat)
  case atStart => exact ⟨i + 1, by omega, by omega, by go_num, Below.refl _ _, fun j h1 h2 => by omega⟩
  case round =>
    obtain ⟨b, hb1, hb2, rfl, hb, HN⟩ := hrel
    have B1 := hide hb
    clear hb
    go_wp2_with fail
    refine (lends_any (HH.out.below B1.out) HK.out.kl HK.out.kc HK.out.ll (b : Int) (by omega) (by omega)).mono ?_
    rintro e w3 ⟨rfl, e3⟩
    have B3 := hide (B1.out.trans (e3.mono B1.out.size))
    clear e3
    cases he : Pv.endsP ks L (b : Int)
    · have h0 : b < L.length := by
        rcases Nat.lt_or_ge b L.length with h | h
        · exact h
        · rw [Pv.endsP_out ks L _ (.inr (by omega))] at he; cases he
      have HE : Hid (Pv.endsP ks L (b : Int) = false) := he
      go_wp2
      go_roundw
      case rel =>
        refine ⟨b + 1, by omega, by omega, by go_num, B3.out, fun j h1 h2 => ?_⟩
        rcases Nat.lt_or_ge j b with h3 | h3
        · exact HN.out j h1 h3
        · obtain rfl : j = b := by omega
          exact HE.out
      case measure => simp [intOf]; omega
    · have HE : Hid (Pv.endsP ks L (b : Int) = true) := he
      go_wp2
      go_ret
      exact ⟨B3.out, b, hb1, hb2, HE.out, HN.out, rfl⟩
theorem Pv.groupsN_bd (ks : List (Nat × Bool)) (l : List Pv.R3) : ∀ k : Nat, 1 ≤ Pv.groupsN ks l k ∧ Pv.groupsN ks l k ≤ k + 1
  | 0 => by simp [Pv.groupsN]
  | k + 1 => by
    have ih := Pv.groupsN_bd ks l k
    rw [Pv.groupsN]
    split <;> omega
set_option maxRecDepth 100000 in
set_option maxHeartbeats 1000000 in
theorem lgroups_any {w : World} {g o : Nat} {vk vc : Value} {ks : List (Nat × Bool)} {L : List Pv.R3} (h : LnAt w g o vk vc ks L) (hk : LnOk ks L) (i : Nat) (hi : i < L.length) :
    Calls Tryz.prog 177 #[.pointer (some ⟨g, o, none⟩), .int .i64 ((i : Int) + 1)] w fun e w' => Below w.heap.size w w' ∧ e = .returned (.int .i64 (Pv.groupsN ks L i)) := by
  have HH := hide h
  have HK := hide hk
  have hll := hk.ll
  clear h hk
  go_enter Tryz.func177, Tryz.ntmps177
  go_wp2_with fail
  go_loopw [5, 6] (fun n5 r6 wr => ∃ k : Nat, k ≤ i ∧ r6 = .int .i64 ((k : Int) + 1) ∧ n5 = .int .i64 (Pv.groupsN ks L k) ∧ Below w.heap.size w wr) (fun _ r6 _ => i + 1 - (intOf r6).toNat)
  case atStart => exact ⟨0, by omega, rfl, rfl, Below.refl _ _⟩
  case round =>
    obtain ⟨k, hki, rfl, rfl, hb⟩ := hrel
    have B1 := hide hb
    clear hb
    have HG : Hid (Pv.groupsN ks L (k + 1) = Pv.groupsN ks L k + (if Pv.endsP ks L (k + 1 : Nat) then 1 else 0)) := hide rfl
    obtain ⟨g1, g2⟩ := Pv.groupsN_bd ks L k
    by_cases hlt : k < i
    · have hlt' : (k : Int) + 1 < (i : Int) + 1 := by omega
      generalize Pv.groupsN ks L k = n at *
      go_wp2_with fail
      refine (lends_any (HH.out.below B1.out) HK.out.kl HK.out.kc HK.out.ll ((k : Int) + 1) (by omega) (by omega)).mono ?_
      rintro e w3 ⟨rfl, e3⟩
      have B3 := hide (B1.out.trans (e3.mono B1.out.size))
      clear e3
      cases he : Pv.endsP ks L ((k : Int) + 1)
      · have HE : Hid (Pv.groupsN ks L (k + 1) = n) := by
          show _ = _
          rw [HG.out, show Pv.endsP ks L (k + 1 : Nat) = false from he]; simp
        go_wp2
        go_roundw
        case rel => exact ⟨k + 1, by omega, by go_num, by rw [HE.out], B3.out⟩
        case measure => simp [intOf]; omega
      · have HE : Hid (Pv.groupsN ks L (k + 1) = n + 1) := by
          show _ = _
          rw [HG.out, show Pv.endsP ks L (k + 1 : Nat) = true from he]; simp
        go_wp2
        go_roundw
        case rel => exact ⟨k + 1, by omega, by go_num, by rw [HE.out], B3.out⟩
        case measure => simp [intOf]; omega
    · obtain rfl : k = i := by omega
      have hlt' : ¬ (k : Int) + 1 < (k : Int) + 1 := by omega
      go_wp2
      go_ret
      exact ⟨B1.out, rfl⟩
end Go.Proofs.YtcoofnhdbejnpaaGreatDoor

