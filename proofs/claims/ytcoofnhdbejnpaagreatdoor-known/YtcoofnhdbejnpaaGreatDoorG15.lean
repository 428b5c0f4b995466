/- Package queries: readFrame. -/
import Derived.Test.YtcoofnhdbejnpaaGreatDoorG14
namespace Go.Proofs.YtcoofnhdbejnpaaGreatDoor
open Go.RowKit
theorem heap_keepAlloc {w : World} {c : Nat} {o : Obj} (h : w.heap[c]? = some o) (o' : Obj) : (w.alloc o').heap[c]? = some o :=
  (Below.heap_alloc _ _ _ (Array.getElem?_eq_some_iff.1 h).1).trans h
set_option maxHeartbeats 1000000 in
theorem readFrame_any {w : World} {b g cap len : Nat} {toks : List Pq.Tok} {vb vk vf : Value} {s : Pq.PS} (h : PIn w b g cap len toks vb vk vf s) :
    Calls Tryz.prog 195 #[.pointer (some ⟨b, 0, none⟩)] w fun e w' => e = .returned (.agg #[.int .i64 ((Pq.frameR toks s).1.kind : Int), .int .i64 (Pq.frameR toks s).1.num, .int .i64 ((Pq.frameR toks s).1.frm.kind : Int), .int .i64 (Pq.frameR toks s).1.frm.num, .int .i64 ((Pq.frameR toks s).1.to.kind : Int), .int .i64 (Pq.frameR toks s).1.to.num]) ∧ PIn w' b g cap len toks vb vk vf (Pq.frameR toks s).2 ∧ Gb b w w' := by
  have H := hide h
  have hlt := h.lt
  clear h
  go_enter Tryz.func195, Tryz.ntmps195
  go_wp2_with fail
  refine (take_any (H.out.alloc _) Pq.wAll).mono ?_
  rintro e w1 ⟨rfl, h1, g1⟩
  have G1 : Gb b w w1 := ((Gb.refl b w).alloc _).trans g1
  have L1 := hide (g1.keep (heap_alloc_new w _) (Nat.ne_of_gt hlt.1))
  clear g1
  cases ht1 : Pq.takes toks Pq.wAll s
  · have H1 := hide (h1.left ht1)
    clear h1
    go_wp2_with fail
    refine (take_any H1.out Pq.wPeers).mono ?_
    rintro e w2 ⟨rfl, h2, g2⟩
    have G2 : Gb b w w2 := G1.trans g2
    have L2 := hide (g2.keep L1.out (Nat.ne_of_gt hlt.1))
    clear g2
    cases ht2 : Pq.takes toks Pq.wPeers s
    · have H2 := hide (h2.left ht2)
      clear h2
      go_wp2_with fail
      refine (take_any H2.out Pq.wNear).mono ?_
      rintro e w3 ⟨rfl, h3, g3⟩
      have G3 : Gb b w w3 := G2.trans g3
      have L3 := hide (g3.keep L2.out (Nat.ne_of_gt hlt.1))
      clear g3
      cases ht3 : Pq.takes toks Pq.wNear s
      · have H3 := hide (h3.left ht3)
        clear h3
        go_wp2_with fail
        refine (readEdge_any H3.out).mono ?_
        rintro e w4 ⟨rfl, h4, g4⟩
        have G4 : Gb b w w4 := G3.trans g4
        have L4 := hide (g4.keep L3.out (Nat.ne_of_gt hlt.1))
        clear g4
        have H4 := hide h4
        clear h4
        have hlt4 := H4.out.lt
        have hltM := hlt4.1
        go_wp2_with fail
        refine (want_any (H4.out.alloc _) Pq.wTo).mono ?_
        rintro e w5 ⟨rfl, h5, g5⟩
        have G5 : Gb b w w5 := (G4.alloc _).trans g5
        have L5 := hide (g5.keep (heap_keepAlloc L4.out _) (Nat.ne_of_gt hlt.1))
        have M5 := hide (g5.keep (heap_alloc_new w4 _) (Nat.ne_of_gt hltM))
        clear g5
        have H5 := hide h5
        clear h5
        go_wp2_with fail
        refine (readEdge_any H5.out).mono ?_
        rintro e w6 ⟨rfl, h6, g6⟩
        have G6 : Gb b w w6 := G5.trans g6
        have L6 := hide (g6.keep L5.out (Nat.ne_of_gt hlt.1))
        have M6 := hide (g6.keep M5.out (Nat.ne_of_gt hltM))
        clear g6
        have H6 := hide h6
        clear h6
        have HE : Hid (Pq.frameR toks s = (⟨3, 0, (Pq.edgeR toks s).1, (Pq.edgeR toks (Pq.wantS toks Pq.wTo (Pq.edgeR toks s).2)).1⟩, (Pq.edgeR toks (Pq.wantS toks Pq.wTo (Pq.edgeR toks s).2)).2)) := by show _ = _; simp [Pq.frameR, ht1, ht2, ht3]
        generalize Pq.edgeR toks (Pq.wantS toks Pq.wTo (Pq.edgeR toks s).2) = e2 at *
        generalize Pq.edgeR toks s = e1 at *
        have hs4 : w.heap.size ≠ w4.heap.size := by intro e; have := L4.out; rw [e] at this; simp at this
        have hs6 : w6.heap.size ≠ w4.heap.size := by intro e; have := M6.out; rw [← e] at this; simp at this
        have hs7 : w6.heap.size ≠ w.heap.size := by intro e; have := L6.out; rw [← e] at this; simp at this
        have L7 := hide (heap_keepAlloc L6.out (.cells #[.int .i64 (e2.1.kind : Int), .int .i64 e2.1.num] 219))
        have M7 := hide (heap_keepAlloc M6.out (.cells #[.int .i64 (e2.1.kind : Int), .int .i64 e2.1.num] 219))
        have N7 := hide (heap_alloc_new w6 (.cells #[.int .i64 (e2.1.kind : Int), .int .i64 e2.1.num] 219))
        have H7 := hide (H6.out.alloc (.cells #[.int .i64 (e2.1.kind : Int), .int .i64 e2.1.num] 219))
        have G7 := G6.alloc (.cells #[.int .i64 (e2.1.kind : Int), .int .i64 e2.1.num] 219)
        have m0 := cell_of_heap M7.out 0
        have m1 := cell_of_heap M7.out 1
        have n0 := cell_of_heap N7.out 0
        have n1 := cell_of_heap N7.out 1
        have l0 := cell_of_heap L7.out 0
        have f0 := free_of_heap L7.out 0
        have l1 := cell_of_heap L7.out 1
        have f1 := free_of_heap L7.out 1
        have l2 := cell_of_heap L7.out 2
        have f2 := free_of_heap L7.out 2
        have l3 := cell_of_heap L7.out 3
        have f3 := free_of_heap L7.out 3
        have l4 := cell_of_heap L7.out 4
        have f4 := free_of_heap L7.out 4
        have l5 := cell_of_heap L7.out 5
        have f5 := free_of_heap L7.out 5
        go_wp2
        refine bodyPost_ret (v := .agg #[.int .i64 3, .int .i64 0, .int .i64 (e1.1.kind : Int), .int .i64 e1.1.num, .int .i64 (e2.1.kind : Int), .int .i64 e2.1.num]) (by simp [results, Tryz.results195, go_sem, l0, l1, l2, l3, l4, l5]) rfl ?_
        rw [HE.out]
        exact ⟨rfl, (((((H7.out.setOther (Nat.ne_of_gt hlt.1) (Nat.ne_of_gt hlt.2) _).setOther (Nat.ne_of_gt hlt.1) (Nat.ne_of_gt hlt.2) _).setOther (Nat.ne_of_gt hlt.1) (Nat.ne_of_gt hlt.2) _).setOther (Nat.ne_of_gt hlt.1) (Nat.ne_of_gt hlt.2) _).setOther (Nat.ne_of_gt hlt.1) (Nat.ne_of_gt hlt.2) _).setOther (Nat.ne_of_gt hlt.1) (Nat.ne_of_gt hlt.2) _, (((((G7.setNew (Nat.le_refl _) _).setNew (Nat.le_refl _) _).setNew (Nat.le_refl _) _).setNew (Nat.le_refl _) _).setNew (Nat.le_refl _) _).setNew (Nat.le_refl _) _⟩
      · have HE : Hid (Pq.frameR toks s = (⟨2, Pq.numV toks s.step, ⟨0, 0⟩, ⟨0, 0⟩⟩, Pq.numS toks s.step)) := by show _ = _; simp [Pq.frameR, ht1, ht2, ht3]
        have H3 := hide (h3.took ht3)
        clear h3
        go_wp2_with fail
        refine (readNumber_any H3.out).mono ?_
        rintro e w4 ⟨rfl, h4, g4⟩
        have G4 : Gb b w w4 := G3.trans g4
        have L4 := hide (g4.keep L3.out (Nat.ne_of_gt hlt.1))
        clear g4
        have H4 := hide h4
        clear h4
        have l0 := cell_of_heap L4.out 0
        have f0 := free_of_heap L4.out 0
        have l1 := cell_of_heap L4.out 1
        have f1 := free_of_heap L4.out 1
        have l2 := cell_of_heap L4.out 2
        have f2 := free_of_heap L4.out 2
        have l3 := cell_of_heap L4.out 3
        have f3 := free_of_heap L4.out 3
        have l4 := cell_of_heap L4.out 4
        have f4 := free_of_heap L4.out 4
        have l5 := cell_of_heap L4.out 5
        have f5 := free_of_heap L4.out 5
        go_wp2
        refine bodyPost_ret (v := .agg #[.int .i64 2, .int .i64 (Pq.numV toks s.step), .int .i64 0, .int .i64 0, .int .i64 0, .int .i64 0]) (by simp [results, Tryz.results195, go_sem, l0, l1, l2, l3, l4, l5]) rfl ?_
        rw [HE.out]
        exact ⟨rfl, (((((H4.out.setOther (Nat.ne_of_gt hlt.1) (Nat.ne_of_gt hlt.2) _).setOther (Nat.ne_of_gt hlt.1) (Nat.ne_of_gt hlt.2) _).setOther (Nat.ne_of_gt hlt.1) (Nat.ne_of_gt hlt.2) _).setOther (Nat.ne_of_gt hlt.1) (Nat.ne_of_gt hlt.2) _).setOther (Nat.ne_of_gt hlt.1) (Nat.ne_of_gt hlt.2) _).setOther (Nat.ne_of_gt hlt.1) (Nat.ne_of_gt hlt.2) _, (((((G4.setNew (Nat.le_refl _) _).setNew (Nat.le_refl _) _).setNew (Nat.le_refl _) _).setNew (Nat.le_refl _) _).setNew (Nat.le_refl _) _).setNew (Nat.le_refl _) _⟩
    · have HE : Hid (Pq.frameR toks s = (⟨1, 0, ⟨0, 0⟩, ⟨0, 0⟩⟩, s.step)) := by show _ = _; simp [Pq.frameR, ht1, ht2]
      have H2 := hide (h2.took ht2)
      clear h2
      have l0 := cell_of_heap L2.out 0
      have f0 := free_of_heap L2.out 0
      have l1 := cell_of_heap L2.out 1
      have f1 := free_of_heap L2.out 1
      have l2 := cell_of_heap L2.out 2
      have f2 := free_of_heap L2.out 2
      have l3 := cell_of_heap L2.out 3
      have f3 := free_of_heap L2.out 3
      have l4 := cell_of_heap L2.out 4
      have f4 := free_of_heap L2.out 4
      have l5 := cell_of_heap L2.out 5
      have f5 := free_of_heap L2.out 5
      go_wp2
      refine bodyPost_ret (v := .agg #[.int .i64 1, .int .i64 0, .int .i64 0, .int .i64 0, .int .i64 0, .int .i64 0]) (by simp [results, Tryz.results195, go_sem, l0, l1, l2, l3, l4, l5]) rfl ?_
      rw [HE.out]
      exact ⟨rfl, (((((H2.out.setOther (Nat.ne_of_gt hlt.1) (Nat.ne_of_gt hlt.2) _).setOther (Nat.ne_of_gt hlt.1) (Nat.ne_of_gt hlt.2) _).setOther (Nat.ne_of_gt hlt.1) (Nat.ne_of_gt hlt.2) _).setOther (Nat.ne_of_gt hlt.1) (Nat.ne_of_gt hlt.2) _).setOther (Nat.ne_of_gt hlt.1) (Nat.ne_of_gt hlt.2) _).setOther (Nat.ne_of_gt hlt.1) (Nat.ne_of_gt hlt.2) _, (((((G2.setNew (Nat.le_refl _) _).setNew (Nat.le_refl _) _).setNew (Nat.le_refl _) _).setNew (Nat.le_refl _) _).setNew (Nat.le_refl _) _).setNew (Nat.le_refl _) _⟩
  · have HE : Hid (Pq.frameR toks s = (⟨0, 0, ⟨0, 0⟩, ⟨0, 0⟩⟩, s.step)) := by show _ = _; simp [Pq.frameR, ht1]
    have H1 := hide (h1.took ht1)
    clear h1
    have l0 := cell_of_heap L1.out 0
    have f0 := free_of_heap L1.out 0
    have l1 := cell_of_heap L1.out 1
    have f1 := free_of_heap L1.out 1
    have l2 := cell_of_heap L1.out 2
    have f2 := free_of_heap L1.out 2
    have l3 := cell_of_heap L1.out 3
    have f3 := free_of_heap L1.out 3
    have l4 := cell_of_heap L1.out 4
    have f4 := free_of_heap L1.out 4
    have l5 := cell_of_heap L1.out 5
    have f5 := free_of_heap L1.out 5
    go_wp2
    refine bodyPost_ret (v := .agg #[.int .i64 0, .int .i64 0, .int .i64 0, .int .i64 0, .int .i64 0, .int .i64 0]) (by simp [results, Tryz.results195, go_sem, l0, l1, l2, l3, l4, l5]) rfl ?_
    rw [HE.out]
    exact ⟨rfl, (((((H1.out.setOther (Nat.ne_of_gt hlt.1) (Nat.ne_of_gt hlt.2) _).setOther (Nat.ne_of_gt hlt.1) (Nat.ne_of_gt hlt.2) _).setOther (Nat.ne_of_gt hlt.1) (Nat.ne_of_gt hlt.2) _).setOther (Nat.ne_of_gt hlt.1) (Nat.ne_of_gt hlt.2) _).setOther (Nat.ne_of_gt hlt.1) (Nat.ne_of_gt hlt.2) _).setOther (Nat.ne_of_gt hlt.1) (Nat.ne_of_gt hlt.2) _, (((((G1.setNew (Nat.le_refl _) _).setNew (Nat.le_refl _) _).setNew (Nat.le_refl _) _).setNew (Nat.le_refl _) _).setNew (Nat.le_refl _) _).setNew (Nat.le_refl _) _⟩
end Go.Proofs.YtcoofnhdbejnpaaGreatDoor

