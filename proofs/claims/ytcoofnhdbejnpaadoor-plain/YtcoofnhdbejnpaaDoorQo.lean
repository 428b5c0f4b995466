/- Package queries: readQuery. -/
import Derived.Test.YtcoofnhdbejnpaaDoorQn
namespace Go.Proofs.YtcoofnhdbejnpaaDoor
open Go.RowKit
set_option maxHeartbeats 1000000 in
theorem readQuery_any {w : World} {B b g cap len : Nat} {toks : List Pq.Tok} {vb vk vf : Value} {s : Pq.PS} (h : PAl w B b g cap len toks vb vk vf s) (e1 : s.by' = []) (e2 : s.keys = []) (e3 : s.funcs = []) :
    Calls Tryd.prog 28 #[.pointer (some ⟨b, 0, none⟩)] w fun e w' => e = .returned (.tuple #[]) ∧ (∃ vb vk vf, PAl w' B b g cap len toks vb vk vf (Pq.queryS toks len s)) ∧ Below B w w' := by
  have H := hide h
  have E1 := hide e1
  have E2 := hide e2
  have E3 := hide e3
  clear h e1 e2 e3
  go_enter Tryd.func28, Tryd.ntmps28
  go_wp2_with fail
  refine (take_any H.out.pin Pq.wBy).mono ?_
  rintro e w1 ⟨rfl, h1, g1⟩
  have A1 := hide (H.out.moved h1 g1 (Pq.same_take _ _ _).by' (Pq.same_take _ _ _).keys (Pq.same_take _ _ _).funcs (Pq.takeS_next _ _ _))
  have B1 := g1.below H.out.hB H.out.pin.lt.1
  clear h1 g1
  cases hb : Pq.takes toks Pq.wBy s
  · rw [Pq.takeS_no hb] at A1
    have e1 : Pq.q1 toks len s = s := by simp [Pq.q1, hb]
    have A3 : Hid (PAl w1 B b g cap len toks vb vk vf (Pq.q1 toks len s)) := by rw [e1]; exact A1
    have B3 := B1
    clear e1 A1 B1
    have E4 : Hid ((Pq.wantS toks Pq.wOrder (Pq.q1 toks len s)).keys.length ≤ (Pq.wantS toks Pq.wOrder (Pq.q1 toks len s)).next) := by show _ ≤ _; rw [(Pq.same_want _ _ _).keys, (Pq.q1_same toks len s).1, E2.out]; simp
    have E5 : Hid ((Pq.wantS toks Pq.wShow (Pq.q2 toks len s)).funcs.length ≤ (Pq.wantS toks Pq.wShow (Pq.q2 toks len s)).next) := by show _ ≤ _; rw [(Pq.same_want _ _ _).funcs, Pq.q2_same toks len s, E3.out]; simp
    go_wp2_with fail
    refine (want_any A3.out.pin Pq.wOrder).mono ?_
    rintro e w4 ⟨rfl, h4, g4⟩
    have A4 := hide (A3.out.moved h4 g4 (Pq.same_want _ _ _).by' (Pq.same_want _ _ _).keys (Pq.same_want _ _ _).funcs (Pq.wantS_next _ _ _))
    have B4 := B3.trans (g4.below A3.out.hB A3.out.pin.lt.1)
    clear h4 g4 A3 B3
    go_wp2_with fail
    refine (readKeys_any A4.out E4.out).mono ?_
    rintro e w5 ⟨rfl, ⟨vb5, vk5, vf5, h5⟩, g5⟩
    have A5 : Hid (PAl w5 B b g cap len toks vb5 vk5 vf5 (Pq.q2 toks len s)) := h5
    have B5 := B4.trans g5
    clear h5 g5 A4 B4
    go_wp2_with fail
    refine (want_any A5.out.pin Pq.wShow).mono ?_
    rintro e w6 ⟨rfl, h6, g6⟩
    have A6 := hide (A5.out.moved h6 g6 (Pq.same_want _ _ _).by' (Pq.same_want _ _ _).keys (Pq.same_want _ _ _).funcs (Pq.wantS_next _ _ _))
    have B6 := B5.trans (g6.below A5.out.hB A5.out.pin.lt.1)
    clear h6 g6 A5 B5
    go_wp2_with fail
    refine (readFuncs_any A6.out E5.out).mono ?_
    rintro e w7 ⟨rfl, ⟨vb7, vk7, vf7, h7⟩, g7⟩
    have A7 : Hid (PAl w7 B b g cap len toks vb7 vk7 vf7 (Pq.q3 toks len s)) := h7
    have B7 := B6.trans g7
    clear h7 g7 A6 B6
    go_wp2_with fail
    refine (take_any A7.out.pin Pq.wTop).mono ?_
    rintro e w8 ⟨rfl, h8, g8⟩
    have A8 := hide (A7.out.moved h8 g8 (Pq.same_take _ _ _).by' (Pq.same_take _ _ _).keys (Pq.same_take _ _ _).funcs (Pq.takeS_next _ _ _))
    have B8 := B7.trans (g8.below A7.out.hB A7.out.pin.lt.1)
    clear h8 g8 A7 B7
    cases ht : Pq.takes toks Pq.wTop (Pq.q3 toks len s)
    · have HQ : Hid (Pq.queryS toks len s = Pq.endS toks (Pq.q3 toks len s)) := by show _ = _; simp [Pq.queryS, Pq.q4, ht]
      rw [Pq.takeS_no ht] at A8
      go_wp2_with fail
      refine (wantEnd_any A8.out.pin).mono ?_
      rintro e w9 ⟨rfl, h9, g9⟩
      have A9 := hide (A8.out.moved h9 g9 (Pq.same_end _ _).by' (Pq.same_end _ _).keys (Pq.same_end _ _).funcs (Nat.le_of_eq (Pq.endS_next _ _).symm))
      have B9 := B8.trans (g9.below A8.out.hB A8.out.pin.lt.1)
      clear h9 g9
      go_wp2
      go_end0
      rw [HQ.out]
      exact ⟨rfl, ⟨_, _, _, A9.out⟩, B9⟩
    · have HQ : Hid (Pq.queryS toks len s = Pq.endS toks (Pq.topS toks (Pq.q3 toks len s).step)) := by show _ = _; simp [Pq.queryS, Pq.q4, ht]
      have et : Pq.takeS toks Pq.wTop (Pq.q3 toks len s) = (Pq.q3 toks len s).step := by simp [Pq.takeS, ht]
      rw [et] at A8
      clear et
      go_wp2_with fail
      refine (readTop_any A8.out.pin).mono ?_
      rintro e w9 ⟨rfl, h9, g9⟩
      have A9 := hide (A8.out.moved h9 g9 (Pq.same_top _ _).by' (Pq.same_top _ _).keys (Pq.same_top _ _).funcs (Pq.topS_next _ _))
      have B9 := B8.trans (g9.below A8.out.hB A8.out.pin.lt.1)
      clear h9 g9
      go_wp2_with fail
      refine (wantEnd_any A9.out.pin).mono ?_
      rintro e w10 ⟨rfl, h10, g10⟩
      have A10 := hide (A9.out.moved h10 g10 (Pq.same_end _ _).by' (Pq.same_end _ _).keys (Pq.same_end _ _).funcs (Nat.le_of_eq (Pq.endS_next _ _).symm))
      have B10 := B9.trans (g10.below A9.out.hB A9.out.pin.lt.1)
      clear h10 g10
      go_wp2
      go_end0
      rw [HQ.out]
      exact ⟨rfl, ⟨_, _, _, A10.out⟩, B10⟩
  · have et : Pq.takeS toks Pq.wBy s = s.step := by simp [Pq.takeS, hb]
    rw [et] at A1
    have e1 : Pq.q1 toks len s = Pq.byR toks len s.step := by simp [Pq.q1, hb]
    have E6 : Hid (s.step.by'.length ≤ s.step.next) := by show s.by'.length ≤ _; rw [E1.out]; simp
    clear et
    have HQ1 := hide e1
    clear e1
    go_wp2_with fail
    refine (readBy_any A1.out E6.out).mono ?_
    rintro e w2 ⟨rfl, ⟨vb2, vk2, vf2, h2⟩, g2⟩
    have A3 : Hid (PAl w2 B b g cap len toks vb2 vk2 vf2 (Pq.q1 toks len s)) := by rw [HQ1.out]; exact h2
    have B3 := B1.trans g2
    clear h2 g2 HQ1 A1 B1 E6
    have E4 : Hid ((Pq.wantS toks Pq.wOrder (Pq.q1 toks len s)).keys.length ≤ (Pq.wantS toks Pq.wOrder (Pq.q1 toks len s)).next) := by show _ ≤ _; rw [(Pq.same_want _ _ _).keys, (Pq.q1_same toks len s).1, E2.out]; simp
    have E5 : Hid ((Pq.wantS toks Pq.wShow (Pq.q2 toks len s)).funcs.length ≤ (Pq.wantS toks Pq.wShow (Pq.q2 toks len s)).next) := by show _ ≤ _; rw [(Pq.same_want _ _ _).funcs, Pq.q2_same toks len s, E3.out]; simp
    go_wp2_with fail
    refine (want_any A3.out.pin Pq.wOrder).mono ?_
    rintro e w4 ⟨rfl, h4, g4⟩
    have A4 := hide (A3.out.moved h4 g4 (Pq.same_want _ _ _).by' (Pq.same_want _ _ _).keys (Pq.same_want _ _ _).funcs (Pq.wantS_next _ _ _))
    have B4 := B3.trans (g4.below A3.out.hB A3.out.pin.lt.1)
    clear h4 g4 A3 B3
    go_wp2_with fail
    refine (readKeys_any A4.out E4.out).mono ?_
    rintro e w5 ⟨rfl, ⟨vb5, vk5, vf5, h5⟩, g5⟩
    have A5 : Hid (PAl w5 B b g cap len toks vb5 vk5 vf5 (Pq.q2 toks len s)) := h5
    have B5 := B4.trans g5
    clear h5 g5 A4 B4
    go_wp2_with fail
    refine (want_any A5.out.pin Pq.wShow).mono ?_
    rintro e w6 ⟨rfl, h6, g6⟩
    have A6 := hide (A5.out.moved h6 g6 (Pq.same_want _ _ _).by' (Pq.same_want _ _ _).keys (Pq.same_want _ _ _).funcs (Pq.wantS_next _ _ _))
    have B6 := B5.trans (g6.below A5.out.hB A5.out.pin.lt.1)
    clear h6 g6 A5 B5
    go_wp2_with fail
    refine (readFuncs_any A6.out E5.out).mono ?_
    rintro e w7 ⟨rfl, ⟨vb7, vk7, vf7, h7⟩, g7⟩
    have A7 : Hid (PAl w7 B b g cap len toks vb7 vk7 vf7 (Pq.q3 toks len s)) := h7
    have B7 := B6.trans g7
    clear h7 g7 A6 B6
    go_wp2_with fail
    refine (take_any A7.out.pin Pq.wTop).mono ?_
    rintro e w8 ⟨rfl, h8, g8⟩
    have A8 := hide (A7.out.moved h8 g8 (Pq.same_take _ _ _).by' (Pq.same_take _ _ _).keys (Pq.same_take _ _ _).funcs (Pq.takeS_next _ _ _))
    have B8 := B7.trans (g8.below A7.out.hB A7.out.pin.lt.1)
    clear h8 g8 A7 B7
    cases ht : Pq.takes toks Pq.wTop (Pq.q3 toks len s)
    · have HQ : Hid (Pq.queryS toks len s = Pq.endS toks (Pq.q3 toks len s)) := by show _ = _; simp [Pq.queryS, Pq.q4, ht]
      rw [Pq.takeS_no ht] at A8
      go_wp2_with fail
      refine (wantEnd_any A8.out.pin).mono ?_
      rintro e w9 ⟨rfl, h9, g9⟩
      have A9 := hide (A8.out.moved h9 g9 (Pq.same_end _ _).by' (Pq.same_end _ _).keys (Pq.same_end _ _).funcs (Nat.le_of_eq (Pq.endS_next _ _).symm))
      have B9 := B8.trans (g9.below A8.out.hB A8.out.pin.lt.1)
      clear h9 g9
      go_wp2
      go_end0
      rw [HQ.out]
      exact ⟨rfl, ⟨_, _, _, A9.out⟩, B9⟩
    · have HQ : Hid (Pq.queryS toks len s = Pq.endS toks (Pq.topS toks (Pq.q3 toks len s).step)) := by show _ = _; simp [Pq.queryS, Pq.q4, ht]
      have et : Pq.takeS toks Pq.wTop (Pq.q3 toks len s) = (Pq.q3 toks len s).step := by simp [Pq.takeS, ht]
      rw [et] at A8
      clear et
      go_wp2_with fail
      refine (readTop_any A8.out.pin).mono ?_
      rintro e w9 ⟨rfl, h9, g9⟩
      have A9 := hide (A8.out.moved h9 g9 (Pq.same_top _ _).by' (Pq.same_top _ _).keys (Pq.same_top _ _).funcs (Pq.topS_next _ _))
      have B9 := B8.trans (g9.below A8.out.hB A8.out.pin.lt.1)
      clear h9 g9
      go_wp2_with fail
      refine (wantEnd_any A9.out.pin).mono ?_
      rintro e w10 ⟨rfl, h10, g10⟩
      have A10 := hide (A9.out.moved h10 g10 (Pq.same_end _ _).by' (Pq.same_end _ _).keys (Pq.same_end _ _).funcs (Nat.le_of_eq (Pq.endS_next _ _).symm))
      have B10 := B9.trans (g10.below A9.out.hB A9.out.pin.lt.1)
      clear h10 g10
      go_wp2
      go_end0
      rw [HQ.out]
      exact ⟨rfl, ⟨_, _, _, A10.out⟩, B10⟩
end Go.Proofs.YtcoofnhdbejnpaaDoor
