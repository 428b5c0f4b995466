/- Package lines: isNear, near. -/
import Derived.Test.YtcoofnhdbejnpaaGreatDoorG24
namespace Go.Proofs.YtcoofnhdbejnpaaGreatDoor
open Go.RowKit
theorem Pv.isNear_out (ks : List (Nat × Bool)) (l : List Pv.R3) (m a b : Int) (h : a < 1 ∨ (l.length : Int) < a) : Pv.isNearP ks l m a b = false := by unfold Pv.isNearP; rw [if_pos h]
theorem Pv.col0_head {ks : List (Nat × Bool)} (h : 0 < ks.length) : Pv.col0 ks = ks[0].1 := by
  match ks, h with
  | k :: ks, _ => rfl
set_option maxRecDepth 100000 in
set_option maxHeartbeats 4000000 in
theorem lisNear_any {w : World} {g o : Nat} {vk vc : Value} {ks : List (Nat × Bool)} {L : List Pv.R3} (h : LnAt w g o vk vc ks L) (hk : LnOk ks L) (a : Int) (ha1 : -1000000 ≤ a) (ha2 : a ≤ 1000000) (i : Nat) (hi : i < L.length) (m : Int) (hm1 : -100000 ≤ m) (hm2 : m ≤ 100000) :
    Calls Tryz.prog 217 #[.pointer (some ⟨g, o, none⟩), .int .i64 a, .int .i64 ((i : Int) + 1), .int .i64 m] w fun e w' => Below w.heap.size w w' ∧ e = .returned (.bool (Pv.isNearP ks L m a ((i : Int) + 1))) := by
  have HH := hide h
  have HK := hide hk
  have hll := hk.ll
  obtain ⟨xc, cc, rfl⟩ := RdG.sl h.rc
  obtain ⟨xk, ck, rfl⟩ := RdG.sl h.rk
  have q0 := h.c0
  have q1 := h.c1
  have hk0 : 0 < ks.length := List.length_pos_iff.2 hk.k0
  have hhas : ∀ z : Int, Hid (Calls Tryz.prog 199 #[.pointer (some ⟨g, o, none⟩), .int .i64 z] w fun e w' => e = .returned (.bool (Pv.hasP L.length z)) ∧ w' = w) := fun z => has_any h.c1 z
  clear h hk
  have hib : Pv.hasP L.length ((i : Int) + 1) = true := Pv.hasP_yes (by omega)
  by_cases hin : 1 ≤ a ∧ a ≤ (L.length : Int)
  · have hia := Pv.hasP_yes hin
    obtain ⟨j, rfl⟩ : ∃ j : Nat, a = (j : Int) + 1 := ⟨(a - 1).toNat, by omega⟩
    have hj : j < L.length := by omega
    have HE : Hid (Pv.isNearP ks L m ((j : Int) + 1) ((i : Int) + 1) = Pv.nearP (Pv.col0 ks) m L[j] L[i]) := Pv.isNearP_in ks L m j i hj hi
    obtain ⟨gk, ok, capk, e, _⟩ := RdG.form1 HH.out.rk hk0
    cases e
    obtain ⟨gc, oc, capc, e, _⟩ := RdG.form1 HH.out.rc (by omega)
    cases e
    have k0 := (HH.out.rk.cell 0 hk0).1
    rw [show ok + 0 * 2 = ok from by omega, ← Pv.col0_head hk0] at k0
    have hc3 : Pv.col0 ks < 3 := by rw [Pv.col0_head hk0]; exact HK.out.kc _ (List.getElem_mem hk0)
    obtain ⟨r1, r2⟩ : -1000 ≤ Pv.colV (Pv.col0 ks) (L[j].1, L[j].2.1, L[j].2.2) ∧ Pv.colV (Pv.col0 ks) (L[j].1, L[j].2.1, L[j].2.2) ≤ 1000 := HK.out.row _ (List.getElem_mem hj) (Pv.col0 ks)
    obtain ⟨r3, r4⟩ : -1000 ≤ Pv.colV (Pv.col0 ks) (L[i].1, L[i].2.1, L[i].2.2) ∧ Pv.colV (Pv.col0 ks) (L[i].1, L[i].2.1, L[i].2.2) ≤ 1000 := HK.out.row _ (List.getElem_mem hi) (Pv.col0 ks)
    have HE2 : Hid (Pv.isNearP ks L m ((j : Int) + 1) ((i : Int) + 1) = (decide (Pv.colV (Pv.col0 ks) (L[j].1, L[j].2.1, L[j].2.2) - Pv.colV (Pv.col0 ks) (L[i].1, L[i].2.1, L[i].2.2) ≤ m) && decide (-(Pv.colV (Pv.col0 ks) (L[j].1, L[j].2.1, L[j].2.2) - Pv.colV (Pv.col0 ks) (L[i].1, L[i].2.1, L[i].2.2)) ≤ m))) := HE.out
    clear HE
    have hj' : (j : Int) < (L.length : Int) := by omega
    have hi' : (i : Int) < (L.length : Int) := by omega
    have hk0' : (0 : Int) < (ks.length : Int) := by omega
    have hne : ((ks.length : Int) == 0) = false := by rw [beq_eq_false_iff_ne]; omega
    have hwj : IntKind.i64.wrap (j : Int) = (j : Int) := wrap_id (by omega) (by omega)
    have hwi : IntKind.i64.wrap (i : Int) = (i : Int) := wrap_id (by omega) (by omega)
    have HY : ∀ w', Hid (Below w.heap.size w w' → (fun w' => w'.cell? ⟨g, o + 1, none⟩ = some (.slice (some ⟨gc, oc, none⟩) L.length cc) ∧ w'.cell? ⟨gc, oc + j * 3, none⟩ = some (.int .i64 L[j].1) ∧ w'.cell? ⟨gc, oc + j * 3 + 1, none⟩ = some (.int .i64 L[j].2.1) ∧ w'.cell? ⟨gc, oc + j * 3 + 2, none⟩ = some (.int .i64 L[j].2.2) ∧ w'.cell? ⟨gc, oc + i * 3, none⟩ = some (.int .i64 L[i].1) ∧ w'.cell? ⟨gc, oc + i * 3 + 1, none⟩ = some (.int .i64 L[i].2.1) ∧ w'.cell? ⟨gc, oc + i * 3 + 2, none⟩ = some (.int .i64 L[i].2.2) ∧ Hid (Below w.heap.size w w')) w') := fun w' hb => by
      have h1 := HH.out.below hb
      obtain ⟨c0, c1, c2⟩ := h1.rc.cell j hj
      obtain ⟨d0, d1, d2⟩ := h1.rc.cell i hi
      exact ⟨h1.c1, c0, c1, c2, d0, d1, d2, hb⟩
    generalize hcc : Pv.col0 ks = c at *
    clear hcc
    go_enter Tryz.func217, Tryz.ntmps217
    go_wp2_with (go_at_call 199; refine ((hhas _).out).mono ?_; rintro e w' ⟨rfl, hw'⟩; obtain rfl := hw'.symm; simp only [hia, hib])
    go_upto_region 4 with fail
    go_region_held3 (fun w' => w'.cell? ⟨g, o + 1, none⟩ = some (.slice (some ⟨gc, oc, none⟩) L.length cc) ∧ w'.cell? ⟨gc, oc + j * 3, none⟩ = some (.int .i64 L[j].1) ∧ w'.cell? ⟨gc, oc + j * 3 + 1, none⟩ = some (.int .i64 L[j].2.1) ∧ w'.cell? ⟨gc, oc + j * 3 + 2, none⟩ = some (.int .i64 L[j].2.2) ∧ w'.cell? ⟨gc, oc + i * 3, none⟩ = some (.int .i64 L[i].1) ∧ w'.cell? ⟨gc, oc + i * 3 + 1, none⟩ = some (.int .i64 L[i].2.1) ∧ w'.cell? ⟨gc, oc + i * 3 + 2, none⟩ = some (.int .i64 L[i].2.2) ∧ Hid (Below w.heap.size w w')) (first | exact (HY _).out (below_drew0 _) | (refine (HY _).out ?_; go_split_ands; exact Below.trans (Hid.out (by assumption)) (Below.mono (by assumption) (Below.size (Hid.out (by assumption)))))) ((go_at_call 197; refine (colOf_any hc3 _ _ _ _).mono ?_; rintro e w3 ⟨rfl, b3⟩))
    rename_i hH
    have BW := hide hH.2.2.2.2.2.2.2.out
    clear hH b3
    generalize Pv.colV c (L[j].1, L[j].2.1, L[j].2.2) = cx at *
    generalize Pv.colV c (L[i].1, L[i].2.1, L[i].2.2) = cy at *
    by_cases h1 : cx - cy ≤ m
    · by_cases h2 : -(cx - cy) ≤ m
      · have H : Hid (Pv.isNearP ks L m ((j : Int) + 1) ((i : Int) + 1) = true) := by show _ = _; rw [HE2.out]; simp only [h1, h2, decide_true, Bool.and_true]
        go_wp2
        go_ret
        exact ⟨BW.out, by rw [H.out]; rfl⟩
      · have H : Hid (Pv.isNearP ks L m ((j : Int) + 1) ((i : Int) + 1) = false) := by show _ = _; rw [HE2.out]; simp only [h2, decide_false, Bool.and_false]
        go_wp2
        go_ret
        exact ⟨BW.out, by rw [H.out]; rfl⟩
    · have H : Hid (Pv.isNearP ks L m ((j : Int) + 1) ((i : Int) + 1) = false) := by show _ = _; rw [HE2.out]; simp only [h1, decide_false, Bool.false_and]
      go_wp2
      go_ret
      exact ⟨BW.out, by rw [H.out]; rfl⟩
  · have hia := Pv.hasP_no hin
    have HE := hide (Pv.isNear_out ks L m a ((i : Int) + 1) (by omega))
    go_enter Tryz.func217, Tryz.ntmps217
    go_wp2_with (go_at_call 199; refine ((hhas _).out).mono ?_; rintro e w' ⟨rfl, hw'⟩; obtain rfl := hw'.symm; simp only [hia])
    go_ret
    exact ⟨Below.refl _ _, by rw [HE.out]; rfl⟩
set_option maxRecDepth 100000 in
set_option maxHeartbeats 2000000 in
theorem lnear_any {w : World} {g o : Nat} {vk vc : Value} {ks : List (Nat × Bool)} {L : List Pv.R3} (h : LnAt w g o vk vc ks L) (hk : LnOk ks L) (i : Nat) (hi : i < L.length) (m : Int) (hm1 : -100000 ≤ m) (hm2 : m ≤ 100000) :
    Calls Tryz.prog 202 #[.pointer (some ⟨g, o, none⟩), .int .i64 m, .int .i64 ((i : Int) + 1)] w fun e w' => Below w.heap.size w w' ∧ ∃ a b : Nat, a ≤ i ∧ i < b ∧ b ≤ L.length ∧
      Pv.isNearP ks L m (a : Nat) ((i : Int) + 1) = false ∧ (∀ j : Nat, a < j → j ≤ i → Pv.isNearP ks L m (j : Nat) ((i : Int) + 1) = true) ∧
      Pv.isNearP ks L m ((b : Int) + 1) ((i : Int) + 1) = false ∧ (∀ j : Nat, i + 1 < j → j ≤ b → Pv.isNearP ks L m (j : Nat) ((i : Int) + 1) = true) ∧ e = .returned (.tuple #[.int .i64 ((a : Int) + 1), .int .i64 (b : Int)]) := by
  have HH := hide h
  have HK := hide hk
  have hll := hk.ll
  clear h hk
  go_enter Tryz.func202, Tryz.ntmps202
  go_wp2_with fail
  go_loopw [8] (fun r wr => ∃ a : Nat, a ≤ i ∧ r = .int .i64 ((a : Int) + 1) ∧ Below w.heap.size w wr ∧ Hid (∀ j : Nat, a < j → j ≤ i → Pv.isNearP ks L m (j : Nat) ((i : Int) + 1) = true)) (fun r _ => (intOf r).toNat)
  case atStart => exact ⟨i, Nat.le_refl _, rfl, Below.refl _ _, fun j h1 h2 => by omega⟩
  case round =>
    obtain ⟨a, ha, rfl, hb, HN⟩ := hrel
    have B1 := hide hb
    clear hb
    go_wp2_with fail
    refine (lisNear_any (HH.out.below B1.out) HK.out (a : Int) (by omega) (by omega) i hi m hm1 hm2).mono ?_
    rintro e w3 ⟨e3, rfl⟩
    have B3 := hide (B1.out.trans (e3.mono B1.out.size))
    clear e3
    cases he : Pv.isNearP ks L m (a : Int) ((i : Int) + 1)
    · have HA : Hid (Pv.isNearP ks L m (a : Int) ((i : Int) + 1) = false) := he
      go_wp2_with fail
      go_loopw [9] (fun r wr => ∃ b : Nat, i < b ∧ b ≤ L.length ∧ r = .int .i64 (b : Int) ∧ Below w.heap.size w wr ∧ Hid (∀ j : Nat, i + 1 < j → j ≤ b → Pv.isNearP ks L m (j : Nat) ((i : Int) + 1) = true)) (fun r _ => L.length - (intOf r).toNat)
      case atStart => exact ⟨i + 1, by omega, by omega, by go_num, B3.out, fun j h1 h2 => by omega⟩
      case round =>
        obtain ⟨b, hb1, hb2, rfl, hb, HM⟩ := hrel
        have B4 := hide hb
        clear hb
        go_wp2_with fail
        refine (lisNear_any (HH.out.below B4.out) HK.out ((b : Int) + 1) (by omega) (by omega) i hi m hm1 hm2).mono ?_
        rintro e w5 ⟨e5, rfl⟩
        have B5 := hide (B4.out.trans (e5.mono B4.out.size))
        clear e5
        cases he2 : Pv.isNearP ks L m ((b : Int) + 1) ((i : Int) + 1)
        · have HB : Hid (Pv.isNearP ks L m ((b : Int) + 1) ((i : Int) + 1) = false) := he2
          go_wp2
          go_ret2
          exact ⟨B5.out, a, b, ha, hb1, hb2, HA.out, HN.out, HB.out, HM.out, rfl⟩
        · have h0 : b < L.length := by
            rcases Nat.lt_or_ge b L.length with h | h
            · exact h
            · rw [Pv.isNear_out ks L m _ _ (.inr (by omega))] at he2; cases he2
          have HB : Hid (Pv.isNearP ks L m ((b : Int) + 1) ((i : Int) + 1) = true) := he2
          go_wp2
          go_roundw
          case rel =>
            refine ⟨b + 1, by omega, by omega, by go_num, B5.out, fun j h1 h2 => ?_⟩
            rcases Nat.lt_or_ge b j with h3 | h3
            · obtain rfl : j = b + 1 := by omega
              exact HB.out
            · exact HM.out j h1 h3
          case measure => simp [intOf]; omega
    · have h0 : 0 < a := by
        rcases Nat.eq_zero_or_pos a with h | h
        · subst h
          rw [Pv.isNear_out ks L m _ _ (.inl (by omega))] at he; cases he
        · exact h
      obtain ⟨b, rfl⟩ : ∃ b, a = b + 1 := ⟨a - 1, by omega⟩
      have HE : Hid (Pv.isNearP ks L m ((b + 1 : Nat) : Int) ((i : Int) + 1) = true) := he
      go_wp2
      go_roundw
      case rel =>
        refine ⟨b, by omega, by go_num, B3.out, fun j h1 h2 => ?_⟩
        rcases Nat.lt_or_ge (b + 1) j with h3 | h3
        · exact HN.out j h3 h2
        · obtain rfl : j = b + 1 := by omega
          exact HE.out
      case measure => simp [intOf]; omega
end Go.Proofs.YtcoofnhdbejnpaaGreatDoor

