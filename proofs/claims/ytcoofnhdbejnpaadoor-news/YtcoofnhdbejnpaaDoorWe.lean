/- Package panesref: becomes, fits. -/
import Derived.Test.YtcoofnhdbejnpaaDoorWd
namespace Go.Proofs.YtcoofnhdbejnpaaDoor
open Go.RowKit
set_option maxRecDepth 100000 in
set_option maxHeartbeats 2000000 in
theorem becomes_any (sym t : Pq.Bytes) (w : World) :
    Calls Tryd.prog 52 #[.string ⟨sym.toArray⟩, .string ⟨t.toArray⟩] w fun e w' => Below w.heap.size w w' ∧ ∃ v, e = .returned (.tuple #[v, .bool (Pr.becomesF sym t).isSome]) ∧ RdS w' v ((Pr.becomesF sym t).getD []) := by
  go_enter Tryd.func52, Tryd.ntmps52
  cases h1 : (sym == [66, 89])
  · cases h2 : (sym == [67, 79, 76, 83])
    · cases h3 : (sym == [75, 69, 89, 83])
      · cases h4 : (sym == [68, 69, 83, 67])
        · cases h5 : (sym == [70, 85, 78, 67, 83])
          · cases h6 : (sym == [84, 79, 80])
            · cases h7 : (sym == [70, 82, 79, 77])
              · have HV : Hid (Pr.becomesF sym t = Pr.partsF sym t) := by show _ = _; unfold Pr.becomesF; rw [h1, h2, h3, h4, h5, h6, h7]; rfl
                go_wp2_with fail
                refine (parts_any sym t _).mono ?_
                rintro e w' ⟨hb, v, rfl, hv⟩
                go_wp2
                go_ret2
                refine ⟨hb, _, by rw [HV.out]; rfl, ?_⟩
                rw [HV.out]
                exact hv
              · cases h8 : (t == [102, 114, 111, 109])
                · have HV : Hid (Pr.becomesF sym t = some []) := by show _ = _; unfold Pr.becomesF; rw [h1, h2, h3, h4, h5, h6, h7, h8]; rfl
                  go_wp2
                  go_ret2
                  refine ⟨Below.refl _ _, _, by rw [HV.out]; rfl, ?_⟩
                  rw [HV.out]
                  exact .inl ⟨rfl, rfl⟩
                · have HV : Hid (Pr.becomesF sym t = some [[102, 114, 111, 109], Pr.sNUM]) := by show _ = _; unfold Pr.becomesF; rw [h1, h2, h3, h4, h5, h6, h7, h8]; rfl
                  go_wp2
                  go_ret2
                  refine ⟨(Below.refl _ _).alloc (Nat.le_refl _) _, _, by rw [HV.out]; rfl, ?_⟩
                  rw [HV.out]
                  exact RdS.at (by first | rfl | simp) [[102, 114, 111, 109], Pr.sNUM] _ rfl
            · cases h9 : (t == [116, 111, 112])
              · have HV : Hid (Pr.becomesF sym t = some []) := by show _ = _; unfold Pr.becomesF; rw [h1, h2, h3, h4, h5, h6, h9]; rfl
                go_wp2
                go_ret2
                refine ⟨Below.refl _ _, _, by rw [HV.out]; rfl, ?_⟩
                rw [HV.out]
                exact .inl ⟨rfl, rfl⟩
              · have HV : Hid (Pr.becomesF sym t = some [[116, 111, 112], Pr.sNUM, Pr.sFROM]) := by show _ = _; unfold Pr.becomesF; rw [h1, h2, h3, h4, h5, h6, h9]; rfl
                go_wp2
                go_ret2
                refine ⟨(Below.refl _ _).alloc (Nat.le_refl _) _, _, by rw [HV.out]; rfl, ?_⟩
                rw [HV.out]
                exact RdS.at (by first | rfl | simp) [[116, 111, 112], Pr.sNUM, Pr.sFROM] _ rfl
          · cases h10 : (t == [44])
            · have HV : Hid (Pr.becomesF sym t = some []) := by show _ = _; unfold Pr.becomesF; rw [h1, h2, h3, h4, h5, h10]; rfl
              go_wp2
              go_ret2
              refine ⟨Below.refl _ _, _, by rw [HV.out]; rfl, ?_⟩
              rw [HV.out]
              exact .inl ⟨rfl, rfl⟩
            · have HV : Hid (Pr.becomesF sym t = some [[44], Pr.sFUNC, Pr.sFUNCS]) := by show _ = _; unfold Pr.becomesF; rw [h1, h2, h3, h4, h5, h10]; rfl
              go_wp2
              go_ret2
              refine ⟨(Below.refl _ _).alloc (Nat.le_refl _) _, _, by rw [HV.out]; rfl, ?_⟩
              rw [HV.out]
              exact RdS.at (by first | rfl | simp) [[44], Pr.sFUNC, Pr.sFUNCS] _ rfl
        · cases h11 : (t == [100, 101, 115, 99])
          · have HV : Hid (Pr.becomesF sym t = some []) := by show _ = _; unfold Pr.becomesF; rw [h1, h2, h3, h4, h11]; rfl
            go_wp2
            go_ret2
            refine ⟨Below.refl _ _, _, by rw [HV.out]; rfl, ?_⟩
            rw [HV.out]
            exact .inl ⟨rfl, rfl⟩
          · have HV : Hid (Pr.becomesF sym t = some [[100, 101, 115, 99]]) := by show _ = _; unfold Pr.becomesF; rw [h1, h2, h3, h4, h11]; rfl
            go_wp2
            go_ret2
            refine ⟨(Below.refl _ _).alloc (Nat.le_refl _) _, _, by rw [HV.out]; rfl, ?_⟩
            rw [HV.out]
            exact RdS.at (by first | rfl | simp) [[100, 101, 115, 99]] _ rfl
      · cases h12 : (t == [44])
        · have HV : Hid (Pr.becomesF sym t = some []) := by show _ = _; unfold Pr.becomesF; rw [h1, h2, h3, h12]; rfl
          go_wp2
          go_ret2
          refine ⟨Below.refl _ _, _, by rw [HV.out]; rfl, ?_⟩
          rw [HV.out]
          exact .inl ⟨rfl, rfl⟩
        · have HV : Hid (Pr.becomesF sym t = some [[44], Pr.sCOL, Pr.sDESC, Pr.sKEYS]) := by show _ = _; unfold Pr.becomesF; rw [h1, h2, h3, h12]; rfl
          go_wp2
          go_ret2
          refine ⟨(Below.refl _ _).alloc (Nat.le_refl _) _, _, by rw [HV.out]; rfl, ?_⟩
          rw [HV.out]
          exact RdS.at (by first | rfl | simp) [[44], Pr.sCOL, Pr.sDESC, Pr.sKEYS] _ rfl
    · cases h13 : (t == [44])
      · have HV : Hid (Pr.becomesF sym t = some []) := by show _ = _; unfold Pr.becomesF; rw [h1, h2, h13]; rfl
        go_wp2
        go_ret2
        refine ⟨Below.refl _ _, _, by rw [HV.out]; rfl, ?_⟩
        rw [HV.out]
        exact .inl ⟨rfl, rfl⟩
      · have HV : Hid (Pr.becomesF sym t = some [[44], Pr.sCOL, Pr.sCOLS]) := by show _ = _; unfold Pr.becomesF; rw [h1, h2, h13]; rfl
        go_wp2
        go_ret2
        refine ⟨(Below.refl _ _).alloc (Nat.le_refl _) _, _, by rw [HV.out]; rfl, ?_⟩
        rw [HV.out]
        exact RdS.at (by first | rfl | simp) [[44], Pr.sCOL, Pr.sCOLS] _ rfl
  · cases h14 : (t == [98, 121])
    · have HV : Hid (Pr.becomesF sym t = some []) := by show _ = _; unfold Pr.becomesF; rw [h1, h14]; rfl
      go_wp2
      go_ret2
      refine ⟨Below.refl _ _, _, by rw [HV.out]; rfl, ?_⟩
      rw [HV.out]
      exact .inl ⟨rfl, rfl⟩
    · have HV : Hid (Pr.becomesF sym t = some [[98, 121], Pr.sCOL, Pr.sCOLS]) := by show _ = _; unfold Pr.becomesF; rw [h1, h14]; rfl
      go_wp2
      go_ret2
      refine ⟨(Below.refl _ _).alloc (Nat.le_refl _) _, _, by rw [HV.out]; rfl, ?_⟩
      rw [HV.out]
      exact RdS.at (by first | rfl | simp) [[98, 121], Pr.sCOL, Pr.sCOLS] _ rfl
set_option maxHeartbeats 400000 in
theorem fits_any (sym t : Pq.Bytes) (w : World) :
    Calls Tryd.prog 53 #[.string ⟨sym.toArray⟩, .string ⟨t.toArray⟩] w fun e w' => e = .returned (.bool (Pr.fitsF sym t)) ∧ Below w.heap.size w w' := by
  cases t with
  | nil =>
    go_enter Tryd.func53, Tryd.ntmps53
    go_wp2
    go_ret
    exact ⟨rfl, Below.refl _ _⟩
  | cons c r =>
    have hz : (c :: r == ([] : Pq.Bytes)) = false := rfl
    cases h1 : (sym == [67, 79, 76])
    · cases h2 : (sym == [78, 85, 77])
      · go_enter Tryd.func53, Tryd.ntmps53
        go_wp2
        go_ret
        exact ⟨by simp [Pr.fitsF, h1, h2], Below.refl _ _⟩
      · go_enter Tryd.func53, Tryd.ntmps53
        go_wp2_with (go_at_call 70; refine (rDigit_any c _).mono ?_; rintro e w' ⟨rfl, rfl⟩)
        go_ret
        exact ⟨by simp [Pr.fitsF, h1, h2, Pr.numT], Below.refl _ _⟩
    · go_enter Tryd.func53, Tryd.ntmps53
      go_wp2_with (go_at_call 54; refine (in_any (c :: r) _ _ (RdS.new _ [[112], [107], [118]]) (by decide)).mono ?_; rintro e w' ⟨rfl, rfl⟩)
      go_ret
      exact ⟨by simp [Pr.fitsF, h1], (Below.refl _ _).alloc (Nat.le_refl _) _⟩
end Go.Proofs.YtcoofnhdbejnpaaDoor
