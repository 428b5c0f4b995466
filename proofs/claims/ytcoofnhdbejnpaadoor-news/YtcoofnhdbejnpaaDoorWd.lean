/- Package panesref: parts, becomes. -/
import Derived.Test.YtcoofnhdbejnpaaDoorWc
import Derived.Test.YtcoofnhdbejnpaaDoorVb
namespace Go.Proofs.YtcoofnhdbejnpaaDoor
open Go.RowKit
theorem RdS.at {w : World} {k : Nat} (h : w.heap.size = k) (ws : List Pq.Bytes) (cs : Array Value) (hc : cs = (strCells ws).toArray) : RdS (w.alloc (.cells cs 9 (0, 0))) (.slice (some ⟨k, 0, none⟩) ws.length ws.length) ws := by
  subst h; subst hc; exact RdS.new w ws
set_option maxRecDepth 100000 in
set_option maxHeartbeats 2000000 in
theorem parts_any (sym t : Pq.Bytes) (w : World) :
    Calls Tryd.prog 72 #[.string ⟨sym.toArray⟩, .string ⟨t.toArray⟩] w fun e w' => Below w.heap.size w w' ∧ ∃ v, e = .returned (.tuple #[v, .bool (Pr.partsF sym t).isSome]) ∧ RdS w' v ((Pr.partsF sym t).getD []) := by
  go_enter Tryd.func72, Tryd.ntmps72
  go_upto_region 1 with fail
  go_cut [6] from 7 to 68 (fun v wx => v = .bool (Pr.numT t) ∧ wx = w)
  case first =>
    cases t with
    | nil =>
      go_wp2
      go_meet
      case rel => exact ⟨rfl, rfl⟩
    | cons c r =>
      have hz : (c :: r == ([] : Pq.Bytes)) = false := rfl
      go_wp2_with (go_at_call 70; refine (rDigit_any c _).mono ?_; rintro e w' ⟨rfl, rfl⟩)
      go_meet
      case rel => exact ⟨rfl, rfl⟩
  case rest =>
    obtain ⟨rfl, rfl⟩ := hcut
    cases h1 : (sym == [70, 85, 78, 67])
    · cases h2 : (sym == [70, 82, 65, 77, 69])
      · cases h3 : (sym == [69, 68, 71, 69])
        · cases h4 : (sym == [83, 73, 68, 69])
          · have HV : Hid (Pr.partsF sym t = none) := by show _ = _; unfold Pr.partsF; rw [h1, h2, h3, h4]; rfl
            go_wp2
            go_ret2
            refine ⟨Below.refl _ _, _, by rw [HV.out]; rfl, ?_⟩
            rw [HV.out]
            exact .inl ⟨rfl, rfl⟩
          · cases h5 : (t == [98, 97, 99, 107])
            · have HV : Hid (Pr.partsF sym t = some [[111, 110]]) := by show _ = _; unfold Pr.partsF; rw [h1, h2, h3, h4, h5]; rfl
              go_wp2
              go_ret2
              refine ⟨(Below.refl _ _).alloc (Nat.le_refl _) _, _, by rw [HV.out]; rfl, ?_⟩
              rw [HV.out]
              exact RdS.at (by first | rfl | simp) [[111, 110]] _ rfl
            · have HV : Hid (Pr.partsF sym t = some [[98, 97, 99, 107]]) := by show _ = _; unfold Pr.partsF; rw [h1, h2, h3, h4, h5]; rfl
              go_wp2
              go_ret2
              refine ⟨(Below.refl _ _).alloc (Nat.le_refl _) _, _, by rw [HV.out]; rfl, ?_⟩
              rw [HV.out]
              exact RdS.at (by first | rfl | simp) [[98, 97, 99, 107]] _ rfl
        · go_wp2_with fail
          refine (in_any t _ _ (RdS.at (by rfl) [[115, 116, 97, 114, 116], [101, 110, 100], [104, 101, 114, 101]] _ rfl) (by decide)).mono ?_
          rintro e w' ⟨rfl, rfl⟩
          cases h6 : Pr.inW t [[115, 116, 97, 114, 116], [101, 110, 100], [104, 101, 114, 101]]
          · cases h7 : Pr.numT t
            · have HV : Hid (Pr.partsF sym t = some [[104, 101, 114, 101]]) := by show _ = _; unfold Pr.partsF; rw [h1, h2, h3, h6, h7]; rfl
              go_wp2
              go_ret2
              refine ⟨((Below.refl _ _).alloc (Nat.le_refl _) _).alloc (by simp) _, _, by rw [HV.out]; rfl, ?_⟩
              rw [HV.out]
              exact RdS.at (by first | rfl | simp) [[104, 101, 114, 101]] _ rfl
            · have HV : Hid (Pr.partsF sym t = some [Pr.sNUM, Pr.sSIDE]) := by show _ = _; unfold Pr.partsF; rw [h1, h2, h3, h6, h7]; rfl
              go_wp2
              go_ret2
              refine ⟨((Below.refl _ _).alloc (Nat.le_refl _) _).alloc (by simp) _, _, by rw [HV.out]; rfl, ?_⟩
              rw [HV.out]
              exact RdS.at (by first | rfl | simp) [Pr.sNUM, Pr.sSIDE] _ rfl
          · have HV : Hid (Pr.partsF sym t = some [t]) := by show _ = _; unfold Pr.partsF; rw [h1, h2, h3, h6]; rfl
            go_wp2
            go_ret2
            refine ⟨((Below.refl _ _).alloc (Nat.le_refl _) _).alloc (by simp) _, _, by rw [HV.out]; rfl, ?_⟩
            rw [HV.out]
            exact RdS.at (by first | rfl | simp) [t] _ rfl
      · cases h8 : (t == [97, 108, 108])
        · cases h9 : (t == [112, 101, 101, 114, 115])
          · cases h10 : (t == [110, 101, 97, 114])
            · have HV : Hid (Pr.partsF sym t = some [Pr.sEDGE, [116, 111], Pr.sEDGE]) := by show _ = _; unfold Pr.partsF; rw [h1, h2, h8, h9, h10]; rfl
              go_wp2
              go_ret2
              refine ⟨(Below.refl _ _).alloc (Nat.le_refl _) _, _, by rw [HV.out]; rfl, ?_⟩
              rw [HV.out]
              exact RdS.at (by first | rfl | simp) [Pr.sEDGE, [116, 111], Pr.sEDGE] _ rfl
            · have HV : Hid (Pr.partsF sym t = some [[110, 101, 97, 114], Pr.sNUM]) := by show _ = _; unfold Pr.partsF; rw [h1, h2, h8, h9, h10]; rfl
              go_wp2
              go_ret2
              refine ⟨(Below.refl _ _).alloc (Nat.le_refl _) _, _, by rw [HV.out]; rfl, ?_⟩
              rw [HV.out]
              exact RdS.at (by first | rfl | simp) [[110, 101, 97, 114], Pr.sNUM] _ rfl
          · have HV : Hid (Pr.partsF sym t = some [t]) := by show _ = _; unfold Pr.partsF; rw [h1, h2, h8, h9]; rfl
            go_wp2
            go_ret2
            refine ⟨(Below.refl _ _).alloc (Nat.le_refl _) _, _, by rw [HV.out]; rfl, ?_⟩
            rw [HV.out]
            exact RdS.at (by first | rfl | simp) [t] _ rfl
        · have HV : Hid (Pr.partsF sym t = some [t]) := by show _ = _; unfold Pr.partsF; rw [h1, h2, h8]; rfl
          go_wp2
          go_ret2
          refine ⟨(Below.refl _ _).alloc (Nat.le_refl _) _, _, by rw [HV.out]; rfl, ?_⟩
          rw [HV.out]
          exact RdS.at (by first | rfl | simp) [t] _ rfl
    · go_wp2_with fail
      refine (in_any t _ _ (RdS.at (by rfl) [[110, 117, 109, 98, 101, 114], [114, 97, 110, 107], [100, 101, 110, 115, 101]] _ rfl) (by decide)).mono ?_
      rintro e w' ⟨rfl, rfl⟩
      cases h11 : Pr.inW t [[110, 117, 109, 98, 101, 114], [114, 97, 110, 107], [100, 101, 110, 115, 101]]
      · cases h12 : (t == [116, 105, 108, 101])
        · cases h13 : (t == [108, 97, 103])
          · cases h14 : (t == [108, 101, 97, 100])
            · go_wp2_with fail
              refine (in_any t _ _ (RdS.at (by simp) [[99, 111, 117, 110, 116], [115, 117, 109], [109, 105, 110], [109, 97, 120], [102, 105, 114, 115, 116], [108, 97, 115, 116]] _ rfl) (by decide)).mono ?_
              rintro e w' ⟨rfl, rfl⟩
              cases h15 : Pr.inW t [[99, 111, 117, 110, 116], [115, 117, 109], [109, 105, 110], [109, 97, 120], [102, 105, 114, 115, 116], [108, 97, 115, 116]]
              · have HV : Hid (Pr.partsF sym t = some [[116, 105, 108, 101]]) := by show _ = _; unfold Pr.partsF; rw [h1, h11, h12, h13, h14, h15]; rfl
                go_wp2
                go_ret2
                refine ⟨(((Below.refl _ _).alloc (Nat.le_refl _) _).alloc (by simp) _).alloc (by simp; omega) _, _, by rw [HV.out]; rfl, ?_⟩
                rw [HV.out]
                exact RdS.at (by first | rfl | simp) [[116, 105, 108, 101]] _ rfl
              · have HV : Hid (Pr.partsF sym t = some [t, [40], Pr.sCOL, [44], Pr.sFRAME, [41]]) := by show _ = _; unfold Pr.partsF; rw [h1, h11, h12, h13, h14, h15]; rfl
                go_wp2
                go_ret2
                refine ⟨(((Below.refl _ _).alloc (Nat.le_refl _) _).alloc (by simp) _).alloc (by simp; omega) _, _, by rw [HV.out]; rfl, ?_⟩
                rw [HV.out]
                exact RdS.at (by first | rfl | simp) [t, [40], Pr.sCOL, [44], Pr.sFRAME, [41]] _ rfl
            · have HV : Hid (Pr.partsF sym t = some [t, [40], Pr.sCOL, [44], Pr.sNUM, [41]]) := by show _ = _; unfold Pr.partsF; rw [h1, h11, h12, h13, h14]; rfl
              go_wp2
              go_ret2
              refine ⟨((Below.refl _ _).alloc (Nat.le_refl _) _).alloc (by simp) _, _, by rw [HV.out]; rfl, ?_⟩
              rw [HV.out]
              exact RdS.at (by first | rfl | simp) [t, [40], Pr.sCOL, [44], Pr.sNUM, [41]] _ rfl
          · have HV : Hid (Pr.partsF sym t = some [t, [40], Pr.sCOL, [44], Pr.sNUM, [41]]) := by show _ = _; unfold Pr.partsF; rw [h1, h11, h12, h13]; rfl
            go_wp2
            go_ret2
            refine ⟨((Below.refl _ _).alloc (Nat.le_refl _) _).alloc (by simp) _, _, by rw [HV.out]; rfl, ?_⟩
            rw [HV.out]
            exact RdS.at (by first | rfl | simp) [t, [40], Pr.sCOL, [44], Pr.sNUM, [41]] _ rfl
        · have HV : Hid (Pr.partsF sym t = some [[116, 105, 108, 101], [40], Pr.sNUM, [41]]) := by show _ = _; unfold Pr.partsF; rw [h1, h11, h12]; rfl
          go_wp2
          go_ret2
          refine ⟨((Below.refl _ _).alloc (Nat.le_refl _) _).alloc (by simp) _, _, by rw [HV.out]; rfl, ?_⟩
          rw [HV.out]
          exact RdS.at (by first | rfl | simp) [[116, 105, 108, 101], [40], Pr.sNUM, [41]] _ rfl
      · have HV : Hid (Pr.partsF sym t = some [t]) := by show _ = _; unfold Pr.partsF; rw [h1, h11]; rfl
        go_wp2
        go_ret2
        refine ⟨((Below.refl _ _).alloc (Nat.le_refl _) _).alloc (by simp) _, _, by rw [HV.out]; rfl, ?_⟩
        rw [HV.out]
        exact RdS.at (by first | rfl | simp) [t] _ rfl
end Go.Proofs.YtcoofnhdbejnpaaDoor
