/- Package queries: readTop, fault, newParser. -/
import Derived.Test.YtcoofnhdbejnpaaDoorQm
import Derived.Test.YtcoofnhdbejnpaaDoorPlainA
namespace Go.Proofs.YtcoofnhdbejnpaaDoor
open Go.RowKit
set_option maxHeartbeats 400000 in
theorem readTop_any {w : World} {b g cap len : Nat} {toks : List Pq.Tok} {vb vk vf : Value} {s : Pq.PS} (h : PIn w b g cap len toks vb vk vf s) :
    Calls Tryd.prog 46 #[.pointer (some ⟨b, 0, none⟩)] w fun e w' => e = .returned (.tuple #[]) ∧ PIn w' b g cap len toks vb vk vf (Pq.topS toks s) ∧ Gb b w w' := by
  have c7 : w.cell? ⟨b, 7, none⟩ = some (.bool s.hasTop) := by simp [World.cell?, h.blk, psCells]
  have f7 := h.frozen 7
  have H := hide h
  clear h
  go_enter Tryd.func46, Tryd.ntmps46
  go_wp2_with fail
  have H1 := hide (H.out.set 7 (.bool true) { s with hasTop := true } vb vk vf (by simp [psCells]) H.out.le)
  refine (readNumber_any H1.out).mono ?_
  rintro e w2 ⟨rfl, h2, g2⟩
  have G2 : Gb b w w2 := ((Gb.refl b w).set 7 (.bool true)).trans g2
  have c8 : ∃ x, w2.cell? ⟨b, 8, none⟩ = some x := ⟨_, by simp [World.cell?, h2.blk, psCells]; rfl⟩
  obtain ⟨x8, c8⟩ := c8
  have f8 := h2.frozen 8
  have H2 := hide h2
  clear h2 g2 c7 f7 H1
  have H3 : Hid (PIn (w2.setCell ⟨b, 8, none⟩ (.int .i64 (Pq.numV toks { s with hasTop := true }))) b g cap len toks vb vk vf (Pq.top1 toks s)) := H2.out.set 8 _ _ _ _ _ (by simp [psCells, Pq.top1]) H2.out.le
  have G3 := G2.set 8 (.int .i64 (Pq.numV toks { s with hasTop := true }))
  go_wp2_with fail
  refine (take_any H3.out Pq.wFrom).mono ?_
  rintro e w4 ⟨rfl, h4, g4⟩
  have G4 := G3.trans g4
  clear g4
  cases ht : Pq.takes toks Pq.wFrom (Pq.top1 toks s)
  · have H4 := hide (h4.left ht)
    clear h4
    have HT : Hid (Pq.topS toks s = Pq.top1 toks s) := by show _ = _; simp [Pq.topS, ht]
    go_wp2
    go_end0
    rw [HT.out]
    exact ⟨rfl, H4.out, G4⟩
  · have H4 := hide (h4.took ht)
    clear h4
    have HT : Hid (Pq.topS toks s = { Pq.numS toks (Pq.top1 toks s).step with frm := Pq.numV toks (Pq.top1 toks s).step }) := by show _ = _; simp [Pq.topS, ht]
    go_wp2_with fail
    refine (readNumber_any H4.out).mono ?_
    rintro e w5 ⟨rfl, h5, g5⟩
    have G5 := G4.trans g5
    have c9 : ∃ x, w5.cell? ⟨b, 9, none⟩ = some x := ⟨_, by simp [World.cell?, h5.blk, psCells]; rfl⟩
    obtain ⟨x9, c9⟩ := c9
    have f9 := h5.frozen 9
    have H5 := hide h5
    clear h5 g5
    go_wp2
    go_end0
    rw [HT.out]
    exact ⟨rfl, H5.out.set 9 _ _ _ _ _ (by simp [psCells]) H5.out.le, G5.set _ _⟩
set_option maxHeartbeats 400000 in
theorem fault_any {w : World} {b g cap len : Nat} {toks : List Pq.Tok} {vb vk vf : Value} {s : Pq.PS} (h : PIn w b g cap len toks vb vk vf s) :
    Calls Tryd.prog 29 #[.pointer (some ⟨b, 0, none⟩)] w fun e w' => e = .returned (.tuple #[.int .i64 (Pq.faultE s), .int .i64 (Pq.faultP toks len s)]) ∧ ∃ n, w' = w.drewN n := by
  obtain ⟨c0, c1, c2, c3⟩ := h.cells
  obtain ⟨d0, d1, d2⟩ := h.cells2
  have H := hide h
  clear h
  cases hf : s.failed
  · rw [hf] at c3
    by_cases hm : s.many = -1
    · have hm' : (s.many != -1) = false := by simp [hm]
      by_cases ht : s.twice = -1
      · have ht' : (s.twice != -1) = false := by simp [ht]
        by_cases ha : s.arg = -1
        · have ha' : (s.arg != -1) = false := by simp [ha]
          have HE : Hid (Pq.faultE s = 0 ∧ Pq.faultP toks len s = 0) := by show _ ∧ _; simp [Pq.faultE, Pq.faultP, hf, hm, ht, ha]
          clear hm ht ha
          go_enter Tryd.func29, Tryd.ntmps29
          go_wp2
          go_ret2
          rw [HE.out.1, HE.out.2]
          exact ⟨rfl, 0, rfl⟩
        · have ha' : (s.arg != -1) = true := by simp [ha]
          have HE : Hid (Pq.faultE s = 6 ∧ Pq.faultP toks len s = s.arg) := by show _ ∧ _; simp [Pq.faultE, Pq.faultP, hf, hm, ht, ha]
          clear hm ht ha
          go_enter Tryd.func29, Tryd.ntmps29
          go_wp2
          go_quiet (fail)
          go_wp2
          go_ret2
          rw [HE.out.1, HE.out.2]
          exact ⟨rfl, _, rfl⟩
      · have ht' : (s.twice != -1) = true := by simp [ht]
        have HE : Hid (Pq.faultE s = 5 ∧ Pq.faultP toks len s = s.twice) := by show _ ∧ _; simp [Pq.faultE, Pq.faultP, hf, hm, ht]
        clear hm ht
        go_enter Tryd.func29, Tryd.ntmps29
        go_wp2
        go_quiet (fail)
        go_wp2
        go_ret2
        rw [HE.out.1, HE.out.2]
        exact ⟨rfl, _, rfl⟩
    · have hm' : (s.many != -1) = true := by simp [hm]
      have HE : Hid (Pq.faultE s = 4 ∧ Pq.faultP toks len s = s.many) := by show _ ∧ _; simp [Pq.faultE, Pq.faultP, hf, hm]
      clear hm
      go_enter Tryd.func29, Tryd.ntmps29
      go_wp2
      go_quiet (fail)
      go_wp2
      go_ret2
      rw [HE.out.1, HE.out.2]
      exact ⟨rfl, _, rfl⟩
  · rw [hf] at c3
    have HE : Hid (Pq.faultE s = 3 ∧ Pq.faultP toks len s = Pq.placeS toks len s) := by show _ ∧ _; simp [Pq.faultE, Pq.faultP, hf]
    go_enter Tryd.func29, Tryd.ntmps29
    go_wp2_with (go_at_call 48; refine (place_any H.out).mono ?_; rintro e w1 ⟨rfl, nq, rfl⟩)
    go_ret2
    rw [HE.out.1, HE.out.2]
    exact ⟨rfl, _, rfl⟩
def ps0Cells (tv : Value) (len : Nat) : Array Value := #[tv, .int .i64 (len : Int), .int .i64 0, .bool false, .slice none 0 0, .slice none 0 0, .slice none 0 0, .bool false, .int .i64 0, .int .i64 0, .int .i64 (-1), .int .i64 (-1), .int .i64 (-1)]
set_option maxHeartbeats 400000 in
theorem newParser_any (w : World) (g n cap len : Nat) :
    Calls Tryd.prog 27 #[.slice (some ⟨g, 0, none⟩) n cap, .int .i64 (len : Int)] w fun e w' => e = .returned (.pointer (some ⟨w.heap.size, 0, none⟩)) ∧ w' = w.alloc (.cells (ps0Cells (.slice (some ⟨g, 0, none⟩) n cap) len) 86) := by
  go_enter Tryd.func27, Tryd.ntmps27
  go_wp2
  go_ret
  exact ⟨rfl, rfl⟩
end Go.Proofs.YtcoofnhdbejnpaaDoor
