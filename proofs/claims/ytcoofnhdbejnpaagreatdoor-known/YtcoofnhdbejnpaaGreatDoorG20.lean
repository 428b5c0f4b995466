/- Package queries: readTop, fault, newParser. -/
import Derived.Test.YtcoofnhdbejnpaaGreatDoorG01
import Derived.Test.YtcoofnhdbejnpaaGreatDoorG19
import Derived.Laws.AppendOwnNone
import Derived.Deep.LoopGhost
import Derived.Test.YtcoofnhdbejnpaaGreatDoorG17
import Derived.Lib.AtoiErrMem
import Derived.Shelf.Strconv.Atoi
import Derived.Test.YtcoofnhdbejnpaaGreatDoorProg
import Derived.Test.YtcoofnhdbejnpaaGreatDoorG02
namespace Go.Proofs.YtcoofnhdbejnpaaGreatDoor
open Go.RowKit
set_option maxHeartbeats 400000 in
theorem readTop_any {w : World} {b g cap len : Nat} {toks : List Pq.Tok} {vb vk vf : Value} {s : Pq.PS} (h : PIn w b g cap len toks vb vk vf s) :
    Calls Tryz.prog 129 #[.pointer (some ⟨b, 0, none⟩)] w fun e w' => e = .returned (.tuple #[]) ∧ PIn w' b g cap len toks vb vk vf (Pq.topS toks s) ∧ Gb b w w' := by
  have c7 : w.cell? ⟨b, 7, none⟩ = some (.bool s.hasTop) := by simp [World.cell?, h.blk, psCells]
  have f7 := h.frozen 7
  have H := hide h
  clear h
  go_enter Tryz.func129, Tryz.ntmps129
  go_wp2_with fail
  have H1 := hide (H.out.set 7 (.bool true) { s with hasTop := true } vb vk vf (by simp [psCells]) H.out.le)
  refine (readNumber_any H1.out).mono ?_
  rintro e w2 ⟨rfl, h2, g2⟩
  have G2 : Gb b w w2 := ((Gb.refl b w).set 7 (.bool true)).trans g2
  have c8 : ∃ x, w2.cell? ⟨b, 8, none⟩ = some x := ⟨_, by simp [World.cell?, h2.blk, psCells]; rfl⟩
  obtain ⟨x8, c8⟩ := c8
  have f8 := h2.frozen 8
  have H2 := hide h2
  clear h2 g2 c7 f7 H1
  have H3 : Hid (PIn (w2.setCell ⟨b, 8, none⟩ (.int .i64 (Pq.numV toks { s with hasTop := true }))) b g cap len toks vb vk vf (Pq.top1 toks s)) := H2.out.set 8 _ _ _ _ _ (by simp [psCells, Pq.top1]) H2.out.le
  have G3 := G2.set 8 (.int .i64 (Pq.numV toks { s with hasTop := true }))
  go_wp2_with fail
  refine (take_any H3.out Pq.wFrom).mono ?_
  rintro e w4 ⟨rfl, h4, g4⟩
  have G4 := G3.trans g4
  clear g4
  cases ht : Pq.takes toks Pq.wFrom (Pq.top1 toks s)
  · have H4 := hide (h4.left ht)
    clear h4
    have HT : Hid (Pq.topS toks s = Pq.top1 toks s) := by show _ = _; simp [Pq.topS, ht]
    go_wp2
    go_end0
    rw [HT.out]
    exact ⟨rfl, H4.out, G4⟩
  · have H4 := hide (h4.took ht)
    clear h4
    have HT : Hid (Pq.topS toks s = { Pq.numS toks (Pq.top1 toks s).step with frm := Pq.numV toks (Pq.top1 toks s).step }) := by show _ = _; simp [Pq.topS, ht]
    go_wp2_with fail
    refine (readNumber_any H4.out).mono ?_
    rintro e w5 ⟨rfl, h5, g5⟩
    have G5 := G4.trans g5
    have c9 : ∃ x, w5.cell? ⟨b, 9, none⟩ = some x := ⟨_, by simp [World.cell?, h5.blk, psCells]; rfl⟩
    obtain ⟨x9, c9⟩ := c9
    have f9 := h5.frozen 9
    have H5 := hide h5
    clear h5 g5
    go_wp2
    go_end0
    rw [HT.out]
    exact ⟨rfl, H5.out.set 9 _ _ _ _ _ (by simp [psCells]) H5.out.le, G5.set _ _⟩
set_option maxHeartbeats 400000 in
theorem fault_any {w : World} {b g cap len : Nat} {toks : List Pq.Tok} {vb vk vf : Value} {s : Pq.PS} (h : PIn w b g cap len toks vb vk vf s) :
    Calls Tryz.prog 96 #[.pointer (some ⟨b, 0, none⟩)] w fun e w' => e = .returned (.tuple #[.int .i64 (Pq.faultE s), .int .i64 (Pq.faultP toks len s)]) ∧ ∃ n, w' = w.drewN n := by
  obtain ⟨c0, c1, c2, c3⟩ := h.cells
  obtain ⟨d0, d1, d2⟩ := h.cells2
  have H := hide h
  clear h
  cases hf : s.failed
  · rw [hf] at c3
    by_cases hm : s.many = -1
    · have hm' : (s.many != -1) = false := by simp [hm]
      by_cases ht : s.twice = -1
      · have ht' : (s.twice != -1) = false := by simp [ht]
        by_cases ha : s.arg = -1
        · have ha' : (s.arg != -1) = false := by simp [ha]
          have HE : Hid (Pq.faultE s = 0 ∧ Pq.faultP toks len s = 0) := by show _ ∧ _; simp [Pq.faultE, Pq.faultP, hf, hm, ht, ha]
          clear hm ht ha
          go_enter Tryz.func96, Tryz.ntmps96
          go_wp2
          go_ret2
          rw [HE.out.1, HE.out.2]
          exact ⟨rfl, 0, rfl⟩
        · have ha' : (s.arg != -1) = true := by simp [ha]
          have HE : Hid (Pq.faultE s = 6 ∧ Pq.faultP toks len s = s.arg) := by show _ ∧ _; simp [Pq.faultE, Pq.faultP, hf, hm, ht, ha]
          clear hm ht ha
          go_enter Tryz.func96, Tryz.ntmps96
          go_wp2
          go_quiet (fail)
          go_wp2
          go_ret2
          rw [HE.out.1, HE.out.2]
          exact ⟨rfl, _, rfl⟩
      · have ht' : (s.twice != -1) = true := by simp [ht]
        have HE : Hid (Pq.faultE s = 5 ∧ Pq.faultP toks len s = s.twice) := by show _ ∧ _; simp [Pq.faultE, Pq.faultP, hf, hm, ht]
        clear hm ht
        go_enter Tryz.func96, Tryz.ntmps96
        go_wp2
        go_quiet (fail)
        go_wp2
        go_ret2
        rw [HE.out.1, HE.out.2]
        exact ⟨rfl, _, rfl⟩
    · have hm' : (s.many != -1) = true := by simp [hm]
      have HE : Hid (Pq.faultE s = 4 ∧ Pq.faultP toks len s = s.many) := by show _ ∧ _; simp [Pq.faultE, Pq.faultP, hf, hm]
      clear hm
      go_enter Tryz.func96, Tryz.ntmps96
      go_wp2
      go_quiet (fail)
      go_wp2
      go_ret2
      rw [HE.out.1, HE.out.2]
      exact ⟨rfl, _, rfl⟩
  · rw [hf] at c3
    have HE : Hid (Pq.faultE s = 3 ∧ Pq.faultP toks len s = Pq.placeS toks len s) := by show _ ∧ _; simp [Pq.faultE, Pq.faultP, hf]
    go_enter Tryz.func96, Tryz.ntmps96
    go_wp2_with (go_at_call 131; refine (place_any H.out).mono ?_; rintro e w1 ⟨rfl, nq, rfl⟩)
    go_ret2
    rw [HE.out.1, HE.out.2]
    exact ⟨rfl, _, rfl⟩
def ps0Cells (tv : Value) (len : Nat) : Array Value := #[tv, .int .i64 (len : Int), .int .i64 0, .bool false, .slice none 0 0, .slice none 0 0, .slice none 0 0, .bool false, .int .i64 0, .int .i64 0, .int .i64 (-1), .int .i64 (-1), .int .i64 (-1)]
set_option maxHeartbeats 400000 in
theorem newParser_any (w : World) (g n cap len : Nat) :
    Calls Tryz.prog 94 #[.slice (some ⟨g, 0, none⟩) n cap, .int .i64 (len : Int)] w fun e w' => e = .returned (.pointer (some ⟨w.heap.size, 0, none⟩)) ∧ w' = w.alloc (.cells (ps0Cells (.slice (some ⟨g, 0, none⟩) n cap) len) 168) := by
  go_enter Tryz.func94, Tryz.ntmps94
  go_wp2
  go_ret
  exact ⟨rfl, rfl⟩
end Go.Proofs.YtcoofnhdbejnpaaGreatDoor

/- Package queries: readQuery. -/
namespace Go.Proofs.YtcoofnhdbejnpaaGreatDoor
open Go.RowKit
set_option maxHeartbeats 1000000 in
theorem readQuery_any {w : World} {B b g cap len : Nat} {toks : List Pq.Tok} {vb vk vf : Value} {s : Pq.PS} (h : PAl w B b g cap len toks vb vk vf s) (e1 : s.by' = []) (e2 : s.keys = []) (e3 : s.funcs = []) :
    Calls Tryz.prog 95 #[.pointer (some ⟨b, 0, none⟩)] w fun e w' => e = .returned (.tuple #[]) ∧ (∃ vb vk vf, PAl w' B b g cap len toks vb vk vf (Pq.queryS toks len s)) ∧ Below B w w' := by
  have H := hide h
  have E1 := hide e1
  have E2 := hide e2
  have E3 := hide e3
  clear h e1 e2 e3
  go_enter Tryz.func95, Tryz.ntmps95
  go_wp2_with fail
  refine (take_any H.out.pin Pq.wBy).mono ?_
  rintro e w1 ⟨rfl, h1, g1⟩
  have A1 := hide (H.out.moved h1 g1 (Pq.same_take _ _ _).by' (Pq.same_take _ _ _).keys (Pq.same_take _ _ _).funcs (Pq.takeS_next _ _ _))
  have B1 := g1.below H.out.hB H.out.pin.lt.1
  clear h1 g1
  cases hb : Pq.takes toks Pq.wBy s
  · rw [Pq.takeS_no hb] at A1
    have e1 : Pq.q1 toks len s = s := by simp [Pq.q1, hb]
    have A3 : Hid (PAl w1 B b g cap len toks vb vk vf (Pq.q1 toks len s)) := by rw [e1]; exact A1
    have B3 := B1
    clear e1 A1 B1
    have E4 : Hid ((Pq.wantS toks Pq.wOrder (Pq.q1 toks len s)).keys.length ≤ (Pq.wantS toks Pq.wOrder (Pq.q1 toks len s)).next) := by show _ ≤ _; rw [(Pq.same_want _ _ _).keys, (Pq.q1_same toks len s).1, E2.out]; simp
    have E5 : Hid ((Pq.wantS toks Pq.wShow (Pq.q2 toks len s)).funcs.length ≤ (Pq.wantS toks Pq.wShow (Pq.q2 toks len s)).next) := by show _ ≤ _; rw [(Pq.same_want _ _ _).funcs, Pq.q2_same toks len s, E3.out]; simp
    go_wp2_with fail
    refine (want_any A3.out.pin Pq.wOrder).mono ?_
    rintro e w4 ⟨rfl, h4, g4⟩
    have A4 := hide (A3.out.moved h4 g4 (Pq.same_want _ _ _).by' (Pq.same_want _ _ _).keys (Pq.same_want _ _ _).funcs (Pq.wantS_next _ _ _))
    have B4 := B3.trans (g4.below A3.out.hB A3.out.pin.lt.1)
    clear h4 g4 A3 B3
    go_wp2_with fail
    refine (readKeys_any A4.out E4.out).mono ?_
    rintro e w5 ⟨rfl, ⟨vb5, vk5, vf5, h5⟩, g5⟩
    have A5 : Hid (PAl w5 B b g cap len toks vb5 vk5 vf5 (Pq.q2 toks len s)) := h5
    have B5 := B4.trans g5
    clear h5 g5 A4 B4
    go_wp2_with fail
    refine (want_any A5.out.pin Pq.wShow).mono ?_
    rintro e w6 ⟨rfl, h6, g6⟩
    have A6 := hide (A5.out.moved h6 g6 (Pq.same_want _ _ _).by' (Pq.same_want _ _ _).keys (Pq.same_want _ _ _).funcs (Pq.wantS_next _ _ _))
    have B6 := B5.trans (g6.below A5.out.hB A5.out.pin.lt.1)
    clear h6 g6 A5 B5
    go_wp2_with fail
    refine (readFuncs_any A6.out E5.out).mono ?_
    rintro e w7 ⟨rfl, ⟨vb7, vk7, vf7, h7⟩, g7⟩
    have A7 : Hid (PAl w7 B b g cap len toks vb7 vk7 vf7 (Pq.q3 toks len s)) := h7
    have B7 := B6.trans g7
    clear h7 g7 A6 B6
    go_wp2_with fail
    refine (take_any A7.out.pin Pq.wTop).mono ?_
    rintro e w8 ⟨rfl, h8, g8⟩
    have A8 := hide (A7.out.moved h8 g8 (Pq.same_take _ _ _).by' (Pq.same_take _ _ _).keys (Pq.same_take _ _ _).funcs (Pq.takeS_next _ _ _))
    have B8 := B7.trans (g8.below A7.out.hB A7.out.pin.lt.1)
    clear h8 g8 A7 B7
    cases ht : Pq.takes toks Pq.wTop (Pq.q3 toks len s)
    · have HQ : Hid (Pq.queryS toks len s = Pq.endS toks (Pq.q3 toks len s)) := by show _ = _; simp [Pq.queryS, Pq.q4, ht]
      rw [Pq.takeS_no ht] at A8
      go_wp2_with fail
      refine (wantEnd_any A8.out.pin).mono ?_
      rintro e w9 ⟨rfl, h9, g9⟩
      have A9 := hide (A8.out.moved h9 g9 (Pq.same_end _ _).by' (Pq.same_end _ _).keys (Pq.same_end _ _).funcs (Nat.le_of_eq (Pq.endS_next _ _).symm))
      have B9 := B8.trans (g9.below A8.out.hB A8.out.pin.lt.1)
      clear h9 g9
      go_wp2
      go_end0
      rw [HQ.out]
      exact ⟨rfl, ⟨_, _, _, A9.out⟩, B9⟩
    · have HQ : Hid (Pq.queryS toks len s = Pq.endS toks (Pq.topS toks (Pq.q3 toks len s).step)) := by show _ = _; simp [Pq.queryS, Pq.q4, ht]
      have et : Pq.takeS toks Pq.wTop (Pq.q3 toks len s) = (Pq.q3 toks len s).step := by simp [Pq.takeS, ht]
      rw [et] at A8
      clear et
      go_wp2_with fail
      refine (readTop_any A8.out.pin).mono ?_
      rintro e w9 ⟨rfl, h9, g9⟩
      have A9 := hide (A8.out.moved h9 g9 (Pq.same_top _ _).by' (Pq.same_top _ _).keys (Pq.same_top _ _).funcs (Pq.topS_next _ _))
      have B9 := B8.trans (g9.below A8.out.hB A8.out.pin.lt.1)
      clear h9 g9
      go_wp2_with fail
      refine (wantEnd_any A9.out.pin).mono ?_
      rintro e w10 ⟨rfl, h10, g10⟩
      have A10 := hide (A9.out.moved h10 g10 (Pq.same_end _ _).by' (Pq.same_end _ _).keys (Pq.same_end _ _).funcs (Nat.le_of_eq (Pq.endS_next _ _).symm))
      have B10 := B9.trans (g10.below A9.out.hB A9.out.pin.lt.1)
      clear h10 g10
      go_wp2
      go_end0
      rw [HQ.out]
      exact ⟨rfl, ⟨_, _, _, A10.out⟩, B10⟩
  · have et : Pq.takeS toks Pq.wBy s = s.step := by simp [Pq.takeS, hb]
    rw [et] at A1
    have e1 : Pq.q1 toks len s = Pq.byR toks len s.step := by simp [Pq.q1, hb]
    have E6 : Hid (s.step.by'.length ≤ s.step.next) := by show s.by'.length ≤ _; rw [E1.out]; simp
    clear et
    have HQ1 := hide e1
    clear e1
    go_wp2_with fail
    refine (readBy_any A1.out E6.out).mono ?_
    rintro e w2 ⟨rfl, ⟨vb2, vk2, vf2, h2⟩, g2⟩
    have A3 : Hid (PAl w2 B b g cap len toks vb2 vk2 vf2 (Pq.q1 toks len s)) := by rw [HQ1.out]; exact h2
    have B3 := B1.trans g2
    clear h2 g2 HQ1 A1 B1 E6
    have E4 : Hid ((Pq.wantS toks Pq.wOrder (Pq.q1 toks len s)).keys.length ≤ (Pq.wantS toks Pq.wOrder (Pq.q1 toks len s)).next) := by show _ ≤ _; rw [(Pq.same_want _ _ _).keys, (Pq.q1_same toks len s).1, E2.out]; simp
    have E5 : Hid ((Pq.wantS toks Pq.wShow (Pq.q2 toks len s)).funcs.length ≤ (Pq.wantS toks Pq.wShow (Pq.q2 toks len s)).next) := by show _ ≤ _; rw [(Pq.same_want _ _ _).funcs, Pq.q2_same toks len s, E3.out]; simp
    go_wp2_with fail
    refine (want_any A3.out.pin Pq.wOrder).mono ?_
    rintro e w4 ⟨rfl, h4, g4⟩
    have A4 := hide (A3.out.moved h4 g4 (Pq.same_want _ _ _).by' (Pq.same_want _ _ _).keys (Pq.same_want _ _ _).funcs (Pq.wantS_next _ _ _))
    have B4 := B3.trans (g4.below A3.out.hB A3.out.pin.lt.1)
    clear h4 g4 A3 B3
    go_wp2_with fail
    refine (readKeys_any A4.out E4.out).mono ?_
    rintro e w5 ⟨rfl, ⟨vb5, vk5, vf5, h5⟩, g5⟩
    have A5 : Hid (PAl w5 B b g cap len toks vb5 vk5 vf5 (Pq.q2 toks len s)) := h5
    have B5 := B4.trans g5
    clear h5 g5 A4 B4
    go_wp2_with fail
    refine (want_any A5.out.pin Pq.wShow).mono ?_
    rintro e w6 ⟨rfl, h6, g6⟩
    have A6 := hide (A5.out.moved h6 g6 (Pq.same_want _ _ _).by' (Pq.same_want _ _ _).keys (Pq.same_want _ _ _).funcs (Pq.wantS_next _ _ _))
    have B6 := B5.trans (g6.below A5.out.hB A5.out.pin.lt.1)
    clear h6 g6 A5 B5
    go_wp2_with fail
    refine (readFuncs_any A6.out E5.out).mono ?_
    rintro e w7 ⟨rfl, ⟨vb7, vk7, vf7, h7⟩, g7⟩
    have A7 : Hid (PAl w7 B b g cap len toks vb7 vk7 vf7 (Pq.q3 toks len s)) := h7
    have B7 := B6.trans g7
    clear h7 g7 A6 B6
    go_wp2_with fail
    refine (take_any A7.out.pin Pq.wTop).mono ?_
    rintro e w8 ⟨rfl, h8, g8⟩
    have A8 := hide (A7.out.moved h8 g8 (Pq.same_take _ _ _).by' (Pq.same_take _ _ _).keys (Pq.same_take _ _ _).funcs (Pq.takeS_next _ _ _))
    have B8 := B7.trans (g8.below A7.out.hB A7.out.pin.lt.1)
    clear h8 g8 A7 B7
    cases ht : Pq.takes toks Pq.wTop (Pq.q3 toks len s)
    · have HQ : Hid (Pq.queryS toks len s = Pq.endS toks (Pq.q3 toks len s)) := by show _ = _; simp [Pq.queryS, Pq.q4, ht]
      rw [Pq.takeS_no ht] at A8
      go_wp2_with fail
      refine (wantEnd_any A8.out.pin).mono ?_
      rintro e w9 ⟨rfl, h9, g9⟩
      have A9 := hide (A8.out.moved h9 g9 (Pq.same_end _ _).by' (Pq.same_end _ _).keys (Pq.same_end _ _).funcs (Nat.le_of_eq (Pq.endS_next _ _).symm))
      have B9 := B8.trans (g9.below A8.out.hB A8.out.pin.lt.1)
      clear h9 g9
      go_wp2
      go_end0
      rw [HQ.out]
      exact ⟨rfl, ⟨_, _, _, A9.out⟩, B9⟩
    · have HQ : Hid (Pq.queryS toks len s = Pq.endS toks (Pq.topS toks (Pq.q3 toks len s).step)) := by show _ = _; simp [Pq.queryS, Pq.q4, ht]
      have et : Pq.takeS toks Pq.wTop (Pq.q3 toks len s) = (Pq.q3 toks len s).step := by simp [Pq.takeS, ht]
      rw [et] at A8
      clear et
      go_wp2_with fail
      refine (readTop_any A8.out.pin).mono ?_
      rintro e w9 ⟨rfl, h9, g9⟩
      have A9 := hide (A8.out.moved h9 g9 (Pq.same_top _ _).by' (Pq.same_top _ _).keys (Pq.same_top _ _).funcs (Pq.topS_next _ _))
      have B9 := B8.trans (g9.below A8.out.hB A8.out.pin.lt.1)
      clear h9 g9
      go_wp2_with fail
      refine (wantEnd_any A9.out.pin).mono ?_
      rintro e w10 ⟨rfl, h10, g10⟩
      have A10 := hide (A9.out.moved h10 g10 (Pq.same_end _ _).by' (Pq.same_end _ _).keys (Pq.same_end _ _).funcs (Nat.le_of_eq (Pq.endS_next _ _).symm))
      have B10 := B9.trans (g10.below A9.out.hB A9.out.pin.lt.1)
      clear h10 g10
      go_wp2
      go_end0
      rw [HQ.out]
      exact ⟨rfl, ⟨_, _, _, A10.out⟩, B10⟩
end Go.Proofs.YtcoofnhdbejnpaaGreatDoor

/- Package queries: Read. -/
namespace Go.Proofs.YtcoofnhdbejnpaaGreatDoor
open Go.RowKit
/-- what Read answers: an error with nothing beside it, or a query whose three lists are new -/
def ReadPost (l : Pq.Bytes) (B : Nat) (e : Ending) (w' : World) : Prop :=
  (Pq.readE l ≠ 0 ∧ e = .returned (.tuple #[.agg #[.slice none 0 0, .slice none 0 0, .slice none 0 0, .bool false, .int .i64 0, .int .i64 0], .int .i64 (Pq.readE l), .int .i64 (Pq.readP l)])) ∨
  (Pq.readE l = 0 ∧ ∃ vb vk vf, e = .returned (.tuple #[.agg #[vb, vk, vf, .bool (Pq.endPS l).hasTop, .int .i64 (Pq.endPS l).top, .int .i64 (Pq.endPS l).frm], .int .i64 0, .int .i64 0]) ∧
    w'.ownsRow B 215 1 vb (Pq.endPS l).by'.length (colCells (Pq.endPS l).by') ∧ w'.ownsRow B 253 2 vk (Pq.endPS l).keys.length (keyCells (Pq.endPS l).keys) ∧ w'.ownsRow B 223 9 vf (Pq.endPS l).funcs.length (fnCells (Pq.endPS l).funcs) ∧
    (Pq.endPS l).by'.length ≤ 301 ∧ (Pq.endPS l).keys.length ≤ 301 ∧ (Pq.endPS l).funcs.length ≤ 301)
theorem pin_new {w : World} {B g cap len : Nat} {toks : List Pq.Tok} (h : w.ownsRow B 206 3 (.slice (some ⟨g, 0, none⟩) toks.length cap) toks.length (toksCells toks)) (hB : B ≤ w.heap.size) (hb : toks.length ≤ 300) (hg : ∀ t ∈ toks, GoodTok t) :
    PAl (w.alloc (.cells (ps0Cells (.slice (some ⟨g, 0, none⟩) toks.length cap) len) 168)) B w.heap.size g cap len toks (.slice none 0 0) (.slice none 0 0) (.slice none 0 0) Pq.ps0 := by
  refine ⟨⟨heap_alloc_new w _, ?_, Nat.zero_le _, hb, hg⟩, World.ownsRow_nil _ _ _ _, World.ownsRow_nil _ _ _ _, World.ownsRow_nil _ _ _ _, by simp [Pq.ps0], by simp [Pq.ps0], by simp [Pq.ps0], hB⟩
  rcases h.2 with ⟨h0, _⟩ | ⟨g', cap', cur, hv, _, hgg, _, _, _, ht⟩
  · cases h0
  · simp only [Value.slice.injEq, Option.some.injEq, Addr.mk.injEq, and_true, true_and] at hv
    obtain ⟨rfl, rfl⟩ := hv
    refine ⟨cur, heap_keepAlloc hgg _, fun j u hu => ?_⟩
    rw [← ht, List.getElem?_take] at hu
    split at hu
    · simpa using hu
    · cases hu
theorem own_mono {w : World} {B B' T n : Nat} {v : Value} {k : Nat} {xs : List Value} (h : w.ownsRow B T n v k xs) (hB : B' ≤ B) : w.ownsRow B' T n v k xs := by
  refine ⟨h.1, ?_⟩
  rcases h.2 with h' | ⟨g, cap, cur, hv, hb, r⟩
  · exact .inl h'
  · exact .inr ⟨g, cap, cur, hv, Nat.le_trans hB hb, r⟩
theorem own_slice {w : World} {B T n : Nat} {v : Value} {k : Nat} {xs : List Value} (h : w.ownsRow B T n v k xs) : ∃ a c, v = .slice a k c := by
  rcases own_form h with ⟨rfl, rfl⟩ | ⟨g, cap, rfl⟩
  · exact ⟨_, _, rfl⟩
  · exact ⟨_, _, rfl⟩
theorem PIn.cells4 {w : World} {b g cap len : Nat} {toks : List Pq.Tok} {vb vk vf : Value} {s : Pq.PS} (h : PIn w b g cap len toks vb vk vf s) : w.cell? ⟨b, 7, none⟩ = some (.bool s.hasTop) ∧ w.cell? ⟨b, 8, none⟩ = some (.int .i64 s.top) ∧ w.cell? ⟨b, 9, none⟩ = some (.int .i64 s.frm) := by
  simp [World.cell?, h.blk, psCells]
theorem size_of_list (s : ByteArray) : s.data.toList.length = s.size := by simp
set_option maxHeartbeats 1000000 in
theorem read_any (s : ByteArray) (w : World) (hs : s.size ≤ maxLen) :
    Calls Tryz.prog 74 #[.string s] w fun e w' => Below w.heap.size w w' ∧ ReadPost s.data.toList w.heap.size e w' := by
  have hs' := hs
  unfold maxLen at hs'
  by_cases h300 : 300 < s.size
  · have HE : Hid (Pq.readE s.data.toList = 1 ∧ Pq.readP s.data.toList = 0) := Pq.readE_long (by rw [size_of_list]; exact h300)
    go_enter Tryz.func74, Tryz.ntmps74
    go_wp2
    refine bodyPost_ret (v := .tuple #[.agg #[.slice none 0 0, .slice none 0 0, .slice none 0 0, .bool false, .int .i64 0, .int .i64 0], .int .i64 1, .int .i64 0]) (by simp [results, Tryz.results74, go_sem]) rfl ?_
    refine ⟨(Below.refl _ _).alloc (Nat.le_refl _) _, .inl ?_⟩
    rw [HE.out.1, HE.out.2]
    exact ⟨by decide, rfl⟩
  · have L0 := hide (heap_alloc_new w (.cells #[.slice none 0 0, .slice none 0 0, .slice none 0 0, .bool false, .int .i64 0, .int .i64 0] 112))
    go_enter Tryz.func74, Tryz.ntmps74
    go_wp2_with fail
    have HP := hide (split_any s (w.alloc (.cells #[.slice none 0 0, .slice none 0 0, .slice none 0 0, .bool false, .int .i64 0, .int .i64 0] 112)) (by omega))
    refine (HP.out).mono ?_
    rintro e w1 ⟨hb1, hp1⟩
    have hsz : (w.alloc (.cells #[.slice none 0 0, .slice none 0 0, .slice none 0 0, .bool false, .int .i64 0, .int .i64 0] 112)).heap.size = w.heap.size + 1 := by simp
    rw [hsz] at hb1 hp1
    have hsz1 := hb1.size
    rw [hsz] at hsz1
    have L1 := hide ((hb1.block w.heap.size (Nat.lt_succ_self _)).trans L0.out)
    have B1 : Below w.heap.size w w1 := ((Below.refl _ _).alloc (Nat.le_refl _) _).trans (hb1.mono (Nat.le_succ _))
    clear hsz HP L0
    unfold SplitPost at hp1
    by_cases hlex : (Pq.lexFrom s.data.toList 0).2 = -1
    · rw [if_pos hlex] at hp1
      obtain ⟨g, cap, rfl, hown⟩ := hp1
      have HX : Hid (Pq.readE s.data.toList = Pq.faultE (Pq.endPS s.data.toList) ∧ Pq.readP s.data.toList = Pq.faultP (Pq.toksOf s.data.toList) s.size (Pq.endPS s.data.toList)) := by
        have := Pq.readE_ok (l := s.data.toList) (by rw [size_of_list]; exact h300) hlex
        rwa [size_of_list] at this
      have A2 := hide (pin_new (len := s.size) hown hsz1 (by have := Pq.lexFrom_len s.data.toList 0; rw [size_of_list] at this; omega) (Pq.lexFrom_good s.data.toList 0))
      have EQ : Hid (Pq.queryS (Pq.lexFrom s.data.toList 0).1 s.size Pq.ps0 = Pq.endPS s.data.toList) := by show _ = _; unfold Pq.endPS Pq.toksOf; rw [size_of_list]
      have HTK : Hid (Pq.toksOf s.data.toList = (Pq.lexFrom s.data.toList 0).1) := hide rfl
      clear hlex hown
      generalize (Pq.lexFrom s.data.toList 0).1 = toks at *
      go_wp2_with fail
      refine (newParser_any _ _ _ _ _).mono ?_
      rintro e w2 ⟨rfl, rfl⟩
      have L2 := hide (heap_keepAlloc L1.out (.cells (ps0Cells (.slice (some ⟨g, 0, none⟩) toks.length cap) s.size) 168))
      have B2 := B1.alloc B1.size (.cells (ps0Cells (.slice (some ⟨g, 0, none⟩) toks.length cap) s.size) 168)
      go_wp2_with fail
      refine (readQuery_any A2.out rfl rfl rfl).mono ?_
      rintro e w3 ⟨rfl, ⟨vb, vk, vf, h3⟩, g3⟩
      rw [EQ.out] at h3
      have A3 := hide h3
      have B3 := B2.trans (g3.mono (Nat.le_succ _))
      have L3 := hide ((g3.block w.heap.size (Nat.lt_succ_self _)).trans L2.out)
      clear h3 g3 A2 L2 B2 EQ
      go_wp2_with fail
      refine (fault_any A3.out.pin).mono ?_
      rintro e w4 ⟨rfl, nq, rfl⟩
      have A4 := hide (A3.out.moved (A3.out.pin.drewN nq) ((Gb.refl _ w3).drewN nq) rfl rfl rfl (Nat.le_refl _))
      have B4 := below_drewN B3 nq
      have L4 : Hid ((w3.drewN nq).heap[w.heap.size]? = _) := L3
      clear A3 B3 L3
      generalize w3.drewN nq = w4 at *
      by_cases hz : Pq.faultE (Pq.endPS s.data.toList) = 0
      · have hz' : (Pq.faultE (Pq.endPS s.data.toList) != 0) = false := by simp [hz]
        have HZ := hide hz
        clear hz
        obtain ⟨a1, p1, rfl⟩ := own_slice A4.out.oby
        obtain ⟨a2, p2, rfl⟩ := own_slice A4.out.okey
        obtain ⟨a3, p3, rfl⟩ := own_slice A4.out.ofun
        obtain ⟨c4, c5, c6⟩ := A4.out.pin.cells3
        obtain ⟨c7, c8, c9⟩ := A4.out.pin.cells4
        have hne : w.heap.size ≠ w1.heap.size := by omega
        have hne' : w1.heap.size ≠ w.heap.size := by omega
        have l0 := cell_of_heap L4.out 0
        have lf0 := free_of_heap L4.out 0
        have l1 := cell_of_heap L4.out 1
        have lf1 := free_of_heap L4.out 1
        have l2 := cell_of_heap L4.out 2
        have lf2 := free_of_heap L4.out 2
        have l3 := cell_of_heap L4.out 3
        have lf3 := free_of_heap L4.out 3
        have l4 := cell_of_heap L4.out 4
        have lf4 := free_of_heap L4.out 4
        have l5 := cell_of_heap L4.out 5
        have lf5 := free_of_heap L4.out 5
        go_wp2
        refine bodyPost_ret (v := .tuple #[.agg #[.slice a1 (Pq.endPS s.data.toList).by'.length p1, .slice a2 (Pq.endPS s.data.toList).keys.length p2, .slice a3 (Pq.endPS s.data.toList).funcs.length p3, .bool (Pq.endPS s.data.toList).hasTop, .int .i64 (Pq.endPS s.data.toList).top, .int .i64 (Pq.endPS s.data.toList).frm], .int .i64 0, .int .i64 0]) (by simp [results, Tryz.results74, go_sem, l0, l1, l2, l3, l4, l5]) rfl ?_
        refine ⟨(((((B4.setCell (Nat.le_refl _) _).setCell (Nat.le_refl _) _).setCell (Nat.le_refl _) _).setCell (Nat.le_refl _) _).setCell (Nat.le_refl _) _).setCell (Nat.le_refl _) _, .inr ⟨by rw [HX.out.1, HZ.out], _, _, _, rfl, ?_, ?_, ?_, ?_, ?_, ?_⟩⟩
        · exact own_mono (ownsRow_setCell_below (ownsRow_setCell_below (ownsRow_setCell_below (ownsRow_setCell_below (ownsRow_setCell_below (ownsRow_setCell_below A4.out.oby (Nat.lt_succ_self _) _) (Nat.lt_succ_self _) _) (Nat.lt_succ_self _) _) (Nat.lt_succ_self _) _) (Nat.lt_succ_self _) _) (Nat.lt_succ_self _) _) (Nat.le_succ _)
        · exact own_mono (ownsRow_setCell_below (ownsRow_setCell_below (ownsRow_setCell_below (ownsRow_setCell_below (ownsRow_setCell_below (ownsRow_setCell_below A4.out.okey (Nat.lt_succ_self _) _) (Nat.lt_succ_self _) _) (Nat.lt_succ_self _) _) (Nat.lt_succ_self _) _) (Nat.lt_succ_self _) _) (Nat.lt_succ_self _) _) (Nat.le_succ _)
        · exact own_mono (ownsRow_setCell_below (ownsRow_setCell_below (ownsRow_setCell_below (ownsRow_setCell_below (ownsRow_setCell_below (ownsRow_setCell_below A4.out.ofun (Nat.lt_succ_self _) _) (Nat.lt_succ_self _) _) (Nat.lt_succ_self _) _) (Nat.lt_succ_self _) _) (Nat.lt_succ_self _) _) (Nat.lt_succ_self _) _) (Nat.le_succ _)
        · have h1 := A4.out.lby; have h2 := A4.out.pin.le; have h3 := A4.out.pin.bd; omega
        · have h1 := A4.out.lkey; have h2 := A4.out.pin.le; have h3 := A4.out.pin.bd; omega
        · have h1 := A4.out.lfun; have h2 := A4.out.pin.le; have h3 := A4.out.pin.bd; omega
      · have hz' : (Pq.faultE (Pq.endPS s.data.toList) != 0) = true := by simp [hz]
        have HZ := hide hz
        clear hz
        have l0 := cell_of_heap L4.out 0
        have lf0 := free_of_heap L4.out 0
        have l1 := cell_of_heap L4.out 1
        have lf1 := free_of_heap L4.out 1
        have l2 := cell_of_heap L4.out 2
        have lf2 := free_of_heap L4.out 2
        have l3 := cell_of_heap L4.out 3
        have lf3 := free_of_heap L4.out 3
        have l4 := cell_of_heap L4.out 4
        have lf4 := free_of_heap L4.out 4
        have l5 := cell_of_heap L4.out 5
        have lf5 := free_of_heap L4.out 5
        go_wp2
        refine bodyPost_ret (v := .tuple #[.agg #[.slice none 0 0, .slice none 0 0, .slice none 0 0, .bool false, .int .i64 0, .int .i64 0], .int .i64 (Pq.faultE (Pq.endPS s.data.toList)), .int .i64 (Pq.faultP toks s.size (Pq.endPS s.data.toList))]) (by simp [results, Tryz.results74, go_sem, l0, l1, l2, l3, l4, l5]) rfl ?_
        refine ⟨(((((B4.setCell (Nat.le_refl _) _).setCell (Nat.le_refl _) _).setCell (Nat.le_refl _) _).setCell (Nat.le_refl _) _).setCell (Nat.le_refl _) _).setCell (Nat.le_refl _) _, .inl ?_⟩
        rw [HX.out.1, HX.out.2, HTK.out]
        exact ⟨HZ.out, rfl⟩
    · rw [if_neg hlex] at hp1
      subst hp1
      have HX : Hid (Pq.readE s.data.toList = 2 ∧ Pq.readP s.data.toList = (Pq.lexFrom s.data.toList 0).2) := Pq.readE_bad (by rw [size_of_list]; exact h300) hlex
      generalize (Pq.lexFrom s.data.toList 0).2 = bad at *
      have hlex' : (bad != -1) = true := by simp [hlex]
      clear hlex
      have l0 := cell_of_heap L1.out 0
      have lf0 := free_of_heap L1.out 0
      have l1 := cell_of_heap L1.out 1
      have lf1 := free_of_heap L1.out 1
      have l2 := cell_of_heap L1.out 2
      have lf2 := free_of_heap L1.out 2
      have l3 := cell_of_heap L1.out 3
      have lf3 := free_of_heap L1.out 3
      have l4 := cell_of_heap L1.out 4
      have lf4 := free_of_heap L1.out 4
      have l5 := cell_of_heap L1.out 5
      have lf5 := free_of_heap L1.out 5
      go_wp2
      refine bodyPost_ret (v := .tuple #[.agg #[.slice none 0 0, .slice none 0 0, .slice none 0 0, .bool false, .int .i64 0, .int .i64 0], .int .i64 2, .int .i64 bad]) (by simp [results, Tryz.results74, go_sem, l0, l1, l2, l3, l4, l5]) rfl ?_
      refine ⟨(((((B1.setCell (Nat.le_refl _) _).setCell (Nat.le_refl _) _).setCell (Nat.le_refl _) _).setCell (Nat.le_refl _) _).setCell (Nat.le_refl _) _).setCell (Nat.le_refl _) _, .inl ?_⟩
      rw [HX.out.1, HX.out.2]
      exact ⟨by decide, rfl⟩
end Go.Proofs.YtcoofnhdbejnpaaGreatDoor

/- Package panesref: Read. -/
namespace Go.Proofs.YtcoofnhdbejnpaaGreatDoor
open Go.RowKit
theorem RdS.below {w w' : World} {v : Value} {ws : List Pq.Bytes} (h : RdS w v ws) (hb : Below w.heap.size w w') : RdS w' v ws := by
  rcases h with h | ⟨g, off, cap, cur, h1, h2, h3, h4⟩
  · exact .inl h
  · refine .inr ⟨g, off, cap, cur, h1, h2, ?_, h4⟩
    rw [hb.block g (by rcases Nat.lt_or_ge g w.heap.size with h | h; exact h; rw [Array.getElem?_eq_none h] at h3; cases h3)]
    exact h3
theorem RdS.ofOwn {w : World} {B n : Nat} {v : Value} {ws : List Pq.Bytes} (h : w.ownsRow B 9 1 v n (strCells ws)) : RdS w v ws := by
  have hl := h.1
  have hl2 : (strCells ws).length = ws.length := by simp [strCells]
  have hn : ws.length = n := by omega
  subst hn
  rcases h.2 with ⟨h1, h2⟩ | ⟨g, cap, cur, h1, h2, h3, h4, h5, h6, h7⟩
  · exact .inl ⟨h1, List.eq_nil_of_length_eq_zero h2⟩
  · refine .inr ⟨g, 0, cap, cur, h1, h4, h3, fun j u hu => ?_⟩
    rw [← h7] at hu
    rw [List.getElem?_take] at hu
    split at hu
    · simpa using hu
    · cases hu
theorem own_below {w w' : World} {B e size n : Nat} {v : Value} {xs : List Value} (h : w.ownsRow B e size v n xs) (hb : Below w.heap.size w w') : w'.ownsRow B e size v n xs := by
  refine ⟨h.1, ?_⟩
  rcases h.2 with h1 | ⟨g, cap, cur, h1, h2, h3, h4⟩
  · exact .inl h1
  · refine .inr ⟨g, cap, cur, h1, h2, ?_, h4⟩
    rw [hb.block g (by rcases Nat.lt_or_ge g w.heap.size with h | h; exact h; rw [Array.getElem?_eq_none h] at h3; cases h3)]
    exact h3
end Go.Proofs.YtcoofnhdbejnpaaGreatDoor

/- Package panesref: short, twice, number. -/
namespace Go.Proofs.YtcoofnhdbejnpaaGreatDoor
open Go.RowKit
theorem RdT.le {w : World} {v : Value} {ts : List Pq.Tok} (h : RdT w v ts) {B : Nat} {w' : World} (hB : w.heap.size ≤ B) (hb : Below B w w') : RdT w' v ts := h.below (hb.mono hB)
end Go.Proofs.YtcoofnhdbejnpaaGreatDoor

