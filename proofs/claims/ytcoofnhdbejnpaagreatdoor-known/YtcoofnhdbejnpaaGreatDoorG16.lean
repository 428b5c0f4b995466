/- Package queries: readFunc. -/
import Derived.Test.YtcoofnhdbejnpaaGreatDoorG15
namespace Go.Proofs.YtcoofnhdbejnpaaGreatDoor
open Go.RowKit
theorem heap_setSame {w : World} {c : Nat} {cs : Array Value} {T : TypeId} (h : w.heap[c]? = some (.cells cs T (0, 0))) (j : Nat) (v : Value) : (w.setCell ⟨c, j, none⟩ v).heap[c]? = some (.cells (cs.setIfInBounds j v) T (0, 0)) := by
  simp [World.setCell, Array.getElem?_modify, h]
theorem heap_setOther {w : World} {c : Nat} {o : Obj} (h : w.heap[c]? = some o) {a : Addr} (ha : a.block ≠ c) (v : Value) : (w.setCell a v).heap[c]? = some o :=
  (Below.heap_setCell _ _ _ _ (Ne.symm ha)).trans h
set_option maxHeartbeats 2000000 in
theorem readFunc_any {w : World} {b g cap len : Nat} {toks : List Pq.Tok} {vb vk vf : Value} {s : Pq.PS} (h : PIn w b g cap len toks vb vk vf s) :
    Calls Tryz.prog 171 #[.pointer (some ⟨b, 0, none⟩)] w fun e w' => e = .returned (.agg #[.int .i64 ((Pq.funcR toks len s).1.kind : Int), .int .i64 ((Pq.funcR toks len s).1.col : Int), .int .i64 (Pq.funcR toks len s).1.num, .int .i64 ((Pq.funcR toks len s).1.frame.kind : Int), .int .i64 (Pq.funcR toks len s).1.frame.num, .int .i64 ((Pq.funcR toks len s).1.frame.frm.kind : Int), .int .i64 (Pq.funcR toks len s).1.frame.frm.num, .int .i64 ((Pq.funcR toks len s).1.frame.to.kind : Int), .int .i64 (Pq.funcR toks len s).1.frame.to.num]) ∧ PIn w' b g cap len toks vb vk vf (Pq.funcR toks len s).2 ∧ Gb b w w' := by
  have H := hide h
  have hlt := h.lt
  have hltF : b < w.heap.size + 1 := by omega
  have hltG : g < w.heap.size + 1 := by omega
  clear h
  go_enter Tryz.func171, Tryz.ntmps171
  go_wp2_with fail
  refine (readFuncKind_any ((H.out.alloc _).alloc _)).mono ?_
  rintro e w1 ⟨rfl, h1, g1⟩
  have G1 : Gb b w w1 := (((Gb.refl b w).alloc _).alloc _).trans g1
  have L1 := hide (g1.keep (heap_keepAlloc (heap_alloc_new w _) _) (Nat.ne_of_gt hlt.1))
  have F1 := hide (g1.keep (c := w.heap.size + 1) (by have := heap_alloc_new (w.alloc (.cells #[.int .i64 0, .int .i64 0, .int .i64 0, .int .i64 0, .int .i64 0, .int .i64 0, .int .i64 0, .int .i64 0, .int .i64 0] 223)) (.cells #[.int .i64 0, .int .i64 0, .int .i64 0, .int .i64 0, .int .i64 0, .int .i64 0, .int .i64 0, .int .i64 0, .int .i64 0] 223); simpa using this) (Nat.ne_of_gt hltF))
  have H1 := hide h1
  clear g1 h1
  have hk12 := Pq.oneOfV_lt toks Pq.kindTxt 12 s (by omega)
  have HF : Hid (Pq.funcR toks len s = if Pq.oneOfV toks Pq.kindTxt 12 s < 3 then (⟨Pq.oneOfV toks Pq.kindTxt 12 s, 0, 0, Pq.fr0⟩, Pq.oneOfS toks Pq.kindTxt 12 s)
    else if Pq.oneOfV toks Pq.kindTxt 12 s = 3 then Pq.tileR toks len (Pq.oneOfS toks Pq.kindTxt 12 s)
    else if Pq.oneOfV toks Pq.kindTxt 12 s < 6 then Pq.lagR toks (Pq.oneOfV toks Pq.kindTxt 12 s) (Pq.oneOfS toks Pq.kindTxt 12 s)
    else Pq.overR toks (Pq.oneOfV toks Pq.kindTxt 12 s) (Pq.oneOfS toks Pq.kindTxt 12 s)) := hide rfl
  generalize Pq.oneOfV toks Pq.kindTxt 12 s = k at *
  generalize Pq.oneOfS toks Pq.kindTxt 12 s = s1 at *
  have k0 := cell_of_heap F1.out 0
  have kf0 := free_of_heap F1.out 0
  have H2 := hide (H1.out.setOther (a := ⟨w.heap.size + 1, 0, none⟩) (Nat.ne_of_gt hltF) (Nat.ne_of_gt hltG) (.int .i64 (k : Int)))
  have G2 := (G1.setNew (a := ⟨w.heap.size + 1, 0, none⟩) (Nat.le_succ _) (.int .i64 (k : Int)))
  have L2 := hide (heap_setOther L1.out (a := ⟨w.heap.size + 1, 0, none⟩) (Nat.succ_ne_self _) (.int .i64 (k : Int)))
  have F2 : Hid ((w1.setCell ⟨w.heap.size + 1, 0, none⟩ (.int .i64 (k : Int))).heap[w.heap.size + 1]? = some (.cells #[.int .i64 (k : Int), .int .i64 0, .int .i64 0, .int .i64 0, .int .i64 0, .int .i64 0, .int .i64 0, .int .i64 0, .int .i64 0] 223 (0, 0))) := hide (heap_setSame F1.out 0 (.int .i64 (k : Int)))
  by_cases h3 : k < 3
  · have HE : Hid (Pq.funcR toks len s = (⟨k, 0, 0, Pq.fr0⟩, s1)) := by show _ = _; rw [HF.out, if_pos h3]
    obtain rfl | rfl | rfl : k = 0 ∨ k = 1 ∨ k = 2 := by omega
    · have l0 := cell_of_heap L1.out 0
      have lf0 := free_of_heap L1.out 0
      have l1 := cell_of_heap L1.out 1
      have lf1 := free_of_heap L1.out 1
      have l2 := cell_of_heap L1.out 2
      have lf2 := free_of_heap L1.out 2
      have l3 := cell_of_heap L1.out 3
      have lf3 := free_of_heap L1.out 3
      have l4 := cell_of_heap L1.out 4
      have lf4 := free_of_heap L1.out 4
      have l5 := cell_of_heap L1.out 5
      have lf5 := free_of_heap L1.out 5
      have l6 := cell_of_heap L1.out 6
      have lf6 := free_of_heap L1.out 6
      have l7 := cell_of_heap L1.out 7
      have lf7 := free_of_heap L1.out 7
      have l8 := cell_of_heap L1.out 8
      have lf8 := free_of_heap L1.out 8
      have k0 := cell_of_heap F1.out 0
      have k1 := cell_of_heap F1.out 1
      have k2 := cell_of_heap F1.out 2
      have k3 := cell_of_heap F1.out 3
      have k4 := cell_of_heap F1.out 4
      have k5 := cell_of_heap F1.out 5
      have k6 := cell_of_heap F1.out 6
      have k7 := cell_of_heap F1.out 7
      have k8 := cell_of_heap F1.out 8
      go_wp2
      refine bodyPost_ret (v := .agg #[.int .i64 0, .int .i64 0, .int .i64 0, .int .i64 0, .int .i64 0, .int .i64 0, .int .i64 0, .int .i64 0, .int .i64 0]) (by simp [results, Tryz.results171, go_sem, l0, l1, l2, l3, l4, l5, l6, l7, l8]) rfl ?_
      rw [HE.out]
      exact ⟨rfl, ((((((((H2.out.setOther (Nat.ne_of_gt hlt.1) (Nat.ne_of_gt hlt.2) _).setOther (Nat.ne_of_gt hlt.1) (Nat.ne_of_gt hlt.2) _).setOther (Nat.ne_of_gt hlt.1) (Nat.ne_of_gt hlt.2) _).setOther (Nat.ne_of_gt hlt.1) (Nat.ne_of_gt hlt.2) _).setOther (Nat.ne_of_gt hlt.1) (Nat.ne_of_gt hlt.2) _).setOther (Nat.ne_of_gt hlt.1) (Nat.ne_of_gt hlt.2) _).setOther (Nat.ne_of_gt hlt.1) (Nat.ne_of_gt hlt.2) _).setOther (Nat.ne_of_gt hlt.1) (Nat.ne_of_gt hlt.2) _).setOther (Nat.ne_of_gt hlt.1) (Nat.ne_of_gt hlt.2) _, ((((((((G2.setNew (Nat.le_refl _) _).setNew (Nat.le_refl _) _).setNew (Nat.le_refl _) _).setNew (Nat.le_refl _) _).setNew (Nat.le_refl _) _).setNew (Nat.le_refl _) _).setNew (Nat.le_refl _) _).setNew (Nat.le_refl _) _).setNew (Nat.le_refl _) _⟩
    · have l0 := cell_of_heap L1.out 0
      have lf0 := free_of_heap L1.out 0
      have l1 := cell_of_heap L1.out 1
      have lf1 := free_of_heap L1.out 1
      have l2 := cell_of_heap L1.out 2
      have lf2 := free_of_heap L1.out 2
      have l3 := cell_of_heap L1.out 3
      have lf3 := free_of_heap L1.out 3
      have l4 := cell_of_heap L1.out 4
      have lf4 := free_of_heap L1.out 4
      have l5 := cell_of_heap L1.out 5
      have lf5 := free_of_heap L1.out 5
      have l6 := cell_of_heap L1.out 6
      have lf6 := free_of_heap L1.out 6
      have l7 := cell_of_heap L1.out 7
      have lf7 := free_of_heap L1.out 7
      have l8 := cell_of_heap L1.out 8
      have lf8 := free_of_heap L1.out 8
      have k0 := cell_of_heap F1.out 0
      have k1 := cell_of_heap F1.out 1
      have k2 := cell_of_heap F1.out 2
      have k3 := cell_of_heap F1.out 3
      have k4 := cell_of_heap F1.out 4
      have k5 := cell_of_heap F1.out 5
      have k6 := cell_of_heap F1.out 6
      have k7 := cell_of_heap F1.out 7
      have k8 := cell_of_heap F1.out 8
      go_wp2
      refine bodyPost_ret (v := .agg #[.int .i64 1, .int .i64 0, .int .i64 0, .int .i64 0, .int .i64 0, .int .i64 0, .int .i64 0, .int .i64 0, .int .i64 0]) (by simp [results, Tryz.results171, go_sem, l0, l1, l2, l3, l4, l5, l6, l7, l8]) rfl ?_
      rw [HE.out]
      exact ⟨rfl, ((((((((H2.out.setOther (Nat.ne_of_gt hlt.1) (Nat.ne_of_gt hlt.2) _).setOther (Nat.ne_of_gt hlt.1) (Nat.ne_of_gt hlt.2) _).setOther (Nat.ne_of_gt hlt.1) (Nat.ne_of_gt hlt.2) _).setOther (Nat.ne_of_gt hlt.1) (Nat.ne_of_gt hlt.2) _).setOther (Nat.ne_of_gt hlt.1) (Nat.ne_of_gt hlt.2) _).setOther (Nat.ne_of_gt hlt.1) (Nat.ne_of_gt hlt.2) _).setOther (Nat.ne_of_gt hlt.1) (Nat.ne_of_gt hlt.2) _).setOther (Nat.ne_of_gt hlt.1) (Nat.ne_of_gt hlt.2) _).setOther (Nat.ne_of_gt hlt.1) (Nat.ne_of_gt hlt.2) _, ((((((((G2.setNew (Nat.le_refl _) _).setNew (Nat.le_refl _) _).setNew (Nat.le_refl _) _).setNew (Nat.le_refl _) _).setNew (Nat.le_refl _) _).setNew (Nat.le_refl _) _).setNew (Nat.le_refl _) _).setNew (Nat.le_refl _) _).setNew (Nat.le_refl _) _⟩
    · have l0 := cell_of_heap L1.out 0
      have lf0 := free_of_heap L1.out 0
      have l1 := cell_of_heap L1.out 1
      have lf1 := free_of_heap L1.out 1
      have l2 := cell_of_heap L1.out 2
      have lf2 := free_of_heap L1.out 2
      have l3 := cell_of_heap L1.out 3
      have lf3 := free_of_heap L1.out 3
      have l4 := cell_of_heap L1.out 4
      have lf4 := free_of_heap L1.out 4
      have l5 := cell_of_heap L1.out 5
      have lf5 := free_of_heap L1.out 5
      have l6 := cell_of_heap L1.out 6
      have lf6 := free_of_heap L1.out 6
      have l7 := cell_of_heap L1.out 7
      have lf7 := free_of_heap L1.out 7
      have l8 := cell_of_heap L1.out 8
      have lf8 := free_of_heap L1.out 8
      have k0 := cell_of_heap F1.out 0
      have k1 := cell_of_heap F1.out 1
      have k2 := cell_of_heap F1.out 2
      have k3 := cell_of_heap F1.out 3
      have k4 := cell_of_heap F1.out 4
      have k5 := cell_of_heap F1.out 5
      have k6 := cell_of_heap F1.out 6
      have k7 := cell_of_heap F1.out 7
      have k8 := cell_of_heap F1.out 8
      go_wp2
      refine bodyPost_ret (v := .agg #[.int .i64 2, .int .i64 0, .int .i64 0, .int .i64 0, .int .i64 0, .int .i64 0, .int .i64 0, .int .i64 0, .int .i64 0]) (by simp [results, Tryz.results171, go_sem, l0, l1, l2, l3, l4, l5, l6, l7, l8]) rfl ?_
      rw [HE.out]
      exact ⟨rfl, ((((((((H2.out.setOther (Nat.ne_of_gt hlt.1) (Nat.ne_of_gt hlt.2) _).setOther (Nat.ne_of_gt hlt.1) (Nat.ne_of_gt hlt.2) _).setOther (Nat.ne_of_gt hlt.1) (Nat.ne_of_gt hlt.2) _).setOther (Nat.ne_of_gt hlt.1) (Nat.ne_of_gt hlt.2) _).setOther (Nat.ne_of_gt hlt.1) (Nat.ne_of_gt hlt.2) _).setOther (Nat.ne_of_gt hlt.1) (Nat.ne_of_gt hlt.2) _).setOther (Nat.ne_of_gt hlt.1) (Nat.ne_of_gt hlt.2) _).setOther (Nat.ne_of_gt hlt.1) (Nat.ne_of_gt hlt.2) _).setOther (Nat.ne_of_gt hlt.1) (Nat.ne_of_gt hlt.2) _, ((((((((G2.setNew (Nat.le_refl _) _).setNew (Nat.le_refl _) _).setNew (Nat.le_refl _) _).setNew (Nat.le_refl _) _).setNew (Nat.le_refl _) _).setNew (Nat.le_refl _) _).setNew (Nat.le_refl _) _).setNew (Nat.le_refl _) _).setNew (Nat.le_refl _) _⟩
  · by_cases h4 : k = 3
    · have HE : Hid (Pq.funcR toks len s = (⟨3, 0, Pq.numV toks (Pq.wantS toks Pq.wOpen s1), Pq.fr0⟩, Pq.wantS toks Pq.wClose (Pq.tileS toks len (Pq.wantS toks Pq.wOpen s1)))) := by show _ = _; rw [HF.out, if_neg h3, if_pos h4]; rfl
      subst h4
      go_wp2_with fail
      refine (want_any H2.out Pq.wOpen).mono ?_
      rintro e w3 ⟨rfl, h3, g3⟩
      have G3 : Gb b w w3 := G2.trans g3
      have L3 := hide (g3.keep L2.out (Nat.ne_of_gt hlt.1))
      have F3 := hide (g3.keep F2.out (Nat.ne_of_gt hltF))
      have H3 := hide h3
      clear g3 h3
      go_wp2_with fail
      refine (readTile_any H3.out).mono ?_
      rintro e w4 ⟨rfl, h4, g4⟩
      have G4 : Gb b w w4 := G3.trans g4
      have L4 := hide (g4.keep L3.out (Nat.ne_of_gt hlt.1))
      have F4 := hide (g4.keep F3.out (Nat.ne_of_gt hltF))
      have H4 := hide h4
      clear g4 h4
      generalize Pq.numV toks (Pq.wantS toks Pq.wOpen s1) = nn at *
      have q2 := cell_of_heap F4.out 2
      have qf2 := free_of_heap F4.out 2
      have H5 := hide (H4.out.setOther (a := ⟨w.heap.size + 1, 2, none⟩) (Nat.ne_of_gt hltF) (Nat.ne_of_gt hltG) (.int .i64 nn))
      have G5 := (G4.setNew (a := ⟨w.heap.size + 1, 2, none⟩) (Nat.le_succ _) (.int .i64 nn))
      have L5 := hide (heap_setOther L4.out (a := ⟨w.heap.size + 1, 2, none⟩) (Nat.succ_ne_self _) (.int .i64 nn))
      have F5 : Hid ((w4.setCell ⟨w.heap.size + 1, 2, none⟩ (.int .i64 nn)).heap[w.heap.size + 1]? = some (.cells #[.int .i64 3, .int .i64 0, .int .i64 nn, .int .i64 0, .int .i64 0, .int .i64 0, .int .i64 0, .int .i64 0, .int .i64 0] 223 (0, 0))) := hide (heap_setSame F4.out 2 (.int .i64 nn))
      go_wp2_with fail
      refine (want_any H5.out Pq.wClose).mono ?_
      rintro e w6 ⟨rfl, h6, g6⟩
      have G6 : Gb b w w6 := G5.trans g6
      have L6 := hide (g6.keep L5.out (Nat.ne_of_gt hlt.1))
      have F6 := hide (g6.keep F5.out (Nat.ne_of_gt hltF))
      have H6 := hide h6
      clear g6 h6
      have l0 := cell_of_heap L6.out 0
      have lf0 := free_of_heap L6.out 0
      have l1 := cell_of_heap L6.out 1
      have lf1 := free_of_heap L6.out 1
      have l2 := cell_of_heap L6.out 2
      have lf2 := free_of_heap L6.out 2
      have l3 := cell_of_heap L6.out 3
      have lf3 := free_of_heap L6.out 3
      have l4 := cell_of_heap L6.out 4
      have lf4 := free_of_heap L6.out 4
      have l5 := cell_of_heap L6.out 5
      have lf5 := free_of_heap L6.out 5
      have l6 := cell_of_heap L6.out 6
      have lf6 := free_of_heap L6.out 6
      have l7 := cell_of_heap L6.out 7
      have lf7 := free_of_heap L6.out 7
      have l8 := cell_of_heap L6.out 8
      have lf8 := free_of_heap L6.out 8
      have k0 := cell_of_heap F6.out 0
      have k1 := cell_of_heap F6.out 1
      have k2 := cell_of_heap F6.out 2
      have k3 := cell_of_heap F6.out 3
      have k4 := cell_of_heap F6.out 4
      have k5 := cell_of_heap F6.out 5
      have k6 := cell_of_heap F6.out 6
      have k7 := cell_of_heap F6.out 7
      have k8 := cell_of_heap F6.out 8
      go_wp2
      refine bodyPost_ret (v := .agg #[.int .i64 3, .int .i64 0, .int .i64 nn, .int .i64 0, .int .i64 0, .int .i64 0, .int .i64 0, .int .i64 0, .int .i64 0]) (by simp [results, Tryz.results171, go_sem, l0, l1, l2, l3, l4, l5, l6, l7, l8]) rfl ?_
      rw [HE.out]
      exact ⟨rfl, ((((((((H6.out.setOther (Nat.ne_of_gt hlt.1) (Nat.ne_of_gt hlt.2) _).setOther (Nat.ne_of_gt hlt.1) (Nat.ne_of_gt hlt.2) _).setOther (Nat.ne_of_gt hlt.1) (Nat.ne_of_gt hlt.2) _).setOther (Nat.ne_of_gt hlt.1) (Nat.ne_of_gt hlt.2) _).setOther (Nat.ne_of_gt hlt.1) (Nat.ne_of_gt hlt.2) _).setOther (Nat.ne_of_gt hlt.1) (Nat.ne_of_gt hlt.2) _).setOther (Nat.ne_of_gt hlt.1) (Nat.ne_of_gt hlt.2) _).setOther (Nat.ne_of_gt hlt.1) (Nat.ne_of_gt hlt.2) _).setOther (Nat.ne_of_gt hlt.1) (Nat.ne_of_gt hlt.2) _, ((((((((G6.setNew (Nat.le_refl _) _).setNew (Nat.le_refl _) _).setNew (Nat.le_refl _) _).setNew (Nat.le_refl _) _).setNew (Nat.le_refl _) _).setNew (Nat.le_refl _) _).setNew (Nat.le_refl _) _).setNew (Nat.le_refl _) _).setNew (Nat.le_refl _) _⟩
    · by_cases h6 : k < 6
      · have HE : Hid (Pq.funcR toks len s = (⟨k, Pq.oneOfV toks Pq.colTxt 3 (Pq.wantS toks Pq.wOpen s1), Pq.numV toks (Pq.wantS toks Pq.wComma (Pq.oneOfS toks Pq.colTxt 3 (Pq.wantS toks Pq.wOpen s1))), Pq.fr0⟩, Pq.wantS toks Pq.wClose (Pq.numS toks (Pq.wantS toks Pq.wComma (Pq.oneOfS toks Pq.colTxt 3 (Pq.wantS toks Pq.wOpen s1)))))) := by show _ = _; rw [HF.out, if_neg h3, if_neg h4, if_pos h6]; rfl
        obtain rfl | rfl : k = 4 ∨ k = 5 := by omega
        · go_wp2_with fail
          refine (want_any H2.out Pq.wOpen).mono ?_
          rintro e w3 ⟨rfl, h3, g3⟩
          have G3 : Gb b w w3 := G2.trans g3
          have L3 := hide (g3.keep L2.out (Nat.ne_of_gt hlt.1))
          have F3 := hide (g3.keep F2.out (Nat.ne_of_gt hltF))
          have H3 := hide h3
          clear g3 h3
          go_wp2_with fail
          refine (readCol_any H3.out).mono ?_
          rintro e w4 ⟨rfl, h4, g4⟩
          have G4 : Gb b w w4 := G3.trans g4
          have L4 := hide (g4.keep L3.out (Nat.ne_of_gt hlt.1))
          have F4 := hide (g4.keep F3.out (Nat.ne_of_gt hltF))
          have H4 := hide h4
          clear g4 h4
          generalize Pq.oneOfV toks Pq.colTxt 3 (Pq.wantS toks Pq.wOpen s1) = cc at *
          have q1 := cell_of_heap F4.out 1
          have qf1 := free_of_heap F4.out 1
          have H5 := hide (H4.out.setOther (a := ⟨w.heap.size + 1, 1, none⟩) (Nat.ne_of_gt hltF) (Nat.ne_of_gt hltG) (.int .i64 (cc : Int)))
          have G5 := (G4.setNew (a := ⟨w.heap.size + 1, 1, none⟩) (Nat.le_succ _) (.int .i64 (cc : Int)))
          have L5 := hide (heap_setOther L4.out (a := ⟨w.heap.size + 1, 1, none⟩) (Nat.succ_ne_self _) (.int .i64 (cc : Int)))
          have F5 : Hid ((w4.setCell ⟨w.heap.size + 1, 1, none⟩ (.int .i64 (cc : Int))).heap[w.heap.size + 1]? = some (.cells #[.int .i64 4, .int .i64 (cc : Int), .int .i64 0, .int .i64 0, .int .i64 0, .int .i64 0, .int .i64 0, .int .i64 0, .int .i64 0] 223 (0, 0))) := hide (heap_setSame F4.out 1 (.int .i64 (cc : Int)))
          go_wp2_with fail
          refine (want_any H5.out Pq.wComma).mono ?_
          rintro e w6 ⟨rfl, h6, g6⟩
          have G6 : Gb b w w6 := G5.trans g6
          have L6 := hide (g6.keep L5.out (Nat.ne_of_gt hlt.1))
          have F6 := hide (g6.keep F5.out (Nat.ne_of_gt hltF))
          have H6 := hide h6
          clear g6 h6
          go_wp2_with fail
          refine (readNumber_any H6.out).mono ?_
          rintro e w7 ⟨rfl, h7, g7⟩
          have G7 : Gb b w w7 := G6.trans g7
          have L7 := hide (g7.keep L6.out (Nat.ne_of_gt hlt.1))
          have F7 := hide (g7.keep F6.out (Nat.ne_of_gt hltF))
          have H7 := hide h7
          clear g7 h7
          generalize Pq.numV toks (Pq.wantS toks Pq.wComma (Pq.oneOfS toks Pq.colTxt 3 (Pq.wantS toks Pq.wOpen s1))) = nn at *
          have r2 := cell_of_heap F7.out 2
          have rf2 := free_of_heap F7.out 2
          have H8 := hide (H7.out.setOther (a := ⟨w.heap.size + 1, 2, none⟩) (Nat.ne_of_gt hltF) (Nat.ne_of_gt hltG) (.int .i64 nn))
          have G8 := (G7.setNew (a := ⟨w.heap.size + 1, 2, none⟩) (Nat.le_succ _) (.int .i64 nn))
          have L8 := hide (heap_setOther L7.out (a := ⟨w.heap.size + 1, 2, none⟩) (Nat.succ_ne_self _) (.int .i64 nn))
          have F8 : Hid ((w7.setCell ⟨w.heap.size + 1, 2, none⟩ (.int .i64 nn)).heap[w.heap.size + 1]? = some (.cells #[.int .i64 4, .int .i64 (cc : Int), .int .i64 nn, .int .i64 0, .int .i64 0, .int .i64 0, .int .i64 0, .int .i64 0, .int .i64 0] 223 (0, 0))) := hide (heap_setSame F7.out 2 (.int .i64 nn))
          go_wp2_with fail
          refine (want_any H8.out Pq.wClose).mono ?_
          rintro e w9 ⟨rfl, h9, g9⟩
          have G9 : Gb b w w9 := G8.trans g9
          have L9 := hide (g9.keep L8.out (Nat.ne_of_gt hlt.1))
          have F9 := hide (g9.keep F8.out (Nat.ne_of_gt hltF))
          have H9 := hide h9
          clear g9 h9
          have l0 := cell_of_heap L9.out 0
          have lf0 := free_of_heap L9.out 0
          have l1 := cell_of_heap L9.out 1
          have lf1 := free_of_heap L9.out 1
          have l2 := cell_of_heap L9.out 2
          have lf2 := free_of_heap L9.out 2
          have l3 := cell_of_heap L9.out 3
          have lf3 := free_of_heap L9.out 3
          have l4 := cell_of_heap L9.out 4
          have lf4 := free_of_heap L9.out 4
          have l5 := cell_of_heap L9.out 5
          have lf5 := free_of_heap L9.out 5
          have l6 := cell_of_heap L9.out 6
          have lf6 := free_of_heap L9.out 6
          have l7 := cell_of_heap L9.out 7
          have lf7 := free_of_heap L9.out 7
          have l8 := cell_of_heap L9.out 8
          have lf8 := free_of_heap L9.out 8
          have k0 := cell_of_heap F9.out 0
          have k1 := cell_of_heap F9.out 1
          have k2 := cell_of_heap F9.out 2
          have k3 := cell_of_heap F9.out 3
          have k4 := cell_of_heap F9.out 4
          have k5 := cell_of_heap F9.out 5
          have k6 := cell_of_heap F9.out 6
          have k7 := cell_of_heap F9.out 7
          have k8 := cell_of_heap F9.out 8
          go_wp2
          refine bodyPost_ret (v := .agg #[.int .i64 4, .int .i64 (cc : Int), .int .i64 nn, .int .i64 0, .int .i64 0, .int .i64 0, .int .i64 0, .int .i64 0, .int .i64 0]) (by simp [results, Tryz.results171, go_sem, l0, l1, l2, l3, l4, l5, l6, l7, l8]) rfl ?_
          rw [HE.out]
          exact ⟨rfl, ((((((((H9.out.setOther (Nat.ne_of_gt hlt.1) (Nat.ne_of_gt hlt.2) _).setOther (Nat.ne_of_gt hlt.1) (Nat.ne_of_gt hlt.2) _).setOther (Nat.ne_of_gt hlt.1) (Nat.ne_of_gt hlt.2) _).setOther (Nat.ne_of_gt hlt.1) (Nat.ne_of_gt hlt.2) _).setOther (Nat.ne_of_gt hlt.1) (Nat.ne_of_gt hlt.2) _).setOther (Nat.ne_of_gt hlt.1) (Nat.ne_of_gt hlt.2) _).setOther (Nat.ne_of_gt hlt.1) (Nat.ne_of_gt hlt.2) _).setOther (Nat.ne_of_gt hlt.1) (Nat.ne_of_gt hlt.2) _).setOther (Nat.ne_of_gt hlt.1) (Nat.ne_of_gt hlt.2) _, ((((((((G9.setNew (Nat.le_refl _) _).setNew (Nat.le_refl _) _).setNew (Nat.le_refl _) _).setNew (Nat.le_refl _) _).setNew (Nat.le_refl _) _).setNew (Nat.le_refl _) _).setNew (Nat.le_refl _) _).setNew (Nat.le_refl _) _).setNew (Nat.le_refl _) _⟩
        · go_wp2_with fail
          refine (want_any H2.out Pq.wOpen).mono ?_
          rintro e w3 ⟨rfl, h3, g3⟩
          have G3 : Gb b w w3 := G2.trans g3
          have L3 := hide (g3.keep L2.out (Nat.ne_of_gt hlt.1))
          have F3 := hide (g3.keep F2.out (Nat.ne_of_gt hltF))
          have H3 := hide h3
          clear g3 h3
          go_wp2_with fail
          refine (readCol_any H3.out).mono ?_
          rintro e w4 ⟨rfl, h4, g4⟩
          have G4 : Gb b w w4 := G3.trans g4
          have L4 := hide (g4.keep L3.out (Nat.ne_of_gt hlt.1))
          have F4 := hide (g4.keep F3.out (Nat.ne_of_gt hltF))
          have H4 := hide h4
          clear g4 h4
          generalize Pq.oneOfV toks Pq.colTxt 3 (Pq.wantS toks Pq.wOpen s1) = cc at *
          have q1 := cell_of_heap F4.out 1
          have qf1 := free_of_heap F4.out 1
          have H5 := hide (H4.out.setOther (a := ⟨w.heap.size + 1, 1, none⟩) (Nat.ne_of_gt hltF) (Nat.ne_of_gt hltG) (.int .i64 (cc : Int)))
          have G5 := (G4.setNew (a := ⟨w.heap.size + 1, 1, none⟩) (Nat.le_succ _) (.int .i64 (cc : Int)))
          have L5 := hide (heap_setOther L4.out (a := ⟨w.heap.size + 1, 1, none⟩) (Nat.succ_ne_self _) (.int .i64 (cc : Int)))
          have F5 : Hid ((w4.setCell ⟨w.heap.size + 1, 1, none⟩ (.int .i64 (cc : Int))).heap[w.heap.size + 1]? = some (.cells #[.int .i64 5, .int .i64 (cc : Int), .int .i64 0, .int .i64 0, .int .i64 0, .int .i64 0, .int .i64 0, .int .i64 0, .int .i64 0] 223 (0, 0))) := hide (heap_setSame F4.out 1 (.int .i64 (cc : Int)))
          go_wp2_with fail
          refine (want_any H5.out Pq.wComma).mono ?_
          rintro e w6 ⟨rfl, h6, g6⟩
          have G6 : Gb b w w6 := G5.trans g6
          have L6 := hide (g6.keep L5.out (Nat.ne_of_gt hlt.1))
          have F6 := hide (g6.keep F5.out (Nat.ne_of_gt hltF))
          have H6 := hide h6
          clear g6 h6
          go_wp2_with fail
          refine (readNumber_any H6.out).mono ?_
          rintro e w7 ⟨rfl, h7, g7⟩
          have G7 : Gb b w w7 := G6.trans g7
          have L7 := hide (g7.keep L6.out (Nat.ne_of_gt hlt.1))
          have F7 := hide (g7.keep F6.out (Nat.ne_of_gt hltF))
          have H7 := hide h7
          clear g7 h7
          generalize Pq.numV toks (Pq.wantS toks Pq.wComma (Pq.oneOfS toks Pq.colTxt 3 (Pq.wantS toks Pq.wOpen s1))) = nn at *
          have r2 := cell_of_heap F7.out 2
          have rf2 := free_of_heap F7.out 2
          have H8 := hide (H7.out.setOther (a := ⟨w.heap.size + 1, 2, none⟩) (Nat.ne_of_gt hltF) (Nat.ne_of_gt hltG) (.int .i64 nn))
          have G8 := (G7.setNew (a := ⟨w.heap.size + 1, 2, none⟩) (Nat.le_succ _) (.int .i64 nn))
          have L8 := hide (heap_setOther L7.out (a := ⟨w.heap.size + 1, 2, none⟩) (Nat.succ_ne_self _) (.int .i64 nn))
          have F8 : Hid ((w7.setCell ⟨w.heap.size + 1, 2, none⟩ (.int .i64 nn)).heap[w.heap.size + 1]? = some (.cells #[.int .i64 5, .int .i64 (cc : Int), .int .i64 nn, .int .i64 0, .int .i64 0, .int .i64 0, .int .i64 0, .int .i64 0, .int .i64 0] 223 (0, 0))) := hide (heap_setSame F7.out 2 (.int .i64 nn))
          go_wp2_with fail
          refine (want_any H8.out Pq.wClose).mono ?_
          rintro e w9 ⟨rfl, h9, g9⟩
          have G9 : Gb b w w9 := G8.trans g9
          have L9 := hide (g9.keep L8.out (Nat.ne_of_gt hlt.1))
          have F9 := hide (g9.keep F8.out (Nat.ne_of_gt hltF))
          have H9 := hide h9
          clear g9 h9
          have l0 := cell_of_heap L9.out 0
          have lf0 := free_of_heap L9.out 0
          have l1 := cell_of_heap L9.out 1
          have lf1 := free_of_heap L9.out 1
          have l2 := cell_of_heap L9.out 2
          have lf2 := free_of_heap L9.out 2
          have l3 := cell_of_heap L9.out 3
          have lf3 := free_of_heap L9.out 3
          have l4 := cell_of_heap L9.out 4
          have lf4 := free_of_heap L9.out 4
          have l5 := cell_of_heap L9.out 5
          have lf5 := free_of_heap L9.out 5
          have l6 := cell_of_heap L9.out 6
          have lf6 := free_of_heap L9.out 6
          have l7 := cell_of_heap L9.out 7
          have lf7 := free_of_heap L9.out 7
          have l8 := cell_of_heap L9.out 8
          have lf8 := free_of_heap L9.out 8
          have k0 := cell_of_heap F9.out 0
          have k1 := cell_of_heap F9.out 1
          have k2 := cell_of_heap F9.out 2
          have k3 := cell_of_heap F9.out 3
          have k4 := cell_of_heap F9.out 4
          have k5 := cell_of_heap F9.out 5
          have k6 := cell_of_heap F9.out 6
          have k7 := cell_of_heap F9.out 7
          have k8 := cell_of_heap F9.out 8
          go_wp2
          refine bodyPost_ret (v := .agg #[.int .i64 5, .int .i64 (cc : Int), .int .i64 nn, .int .i64 0, .int .i64 0, .int .i64 0, .int .i64 0, .int .i64 0, .int .i64 0]) (by simp [results, Tryz.results171, go_sem, l0, l1, l2, l3, l4, l5, l6, l7, l8]) rfl ?_
          rw [HE.out]
          exact ⟨rfl, ((((((((H9.out.setOther (Nat.ne_of_gt hlt.1) (Nat.ne_of_gt hlt.2) _).setOther (Nat.ne_of_gt hlt.1) (Nat.ne_of_gt hlt.2) _).setOther (Nat.ne_of_gt hlt.1) (Nat.ne_of_gt hlt.2) _).setOther (Nat.ne_of_gt hlt.1) (Nat.ne_of_gt hlt.2) _).setOther (Nat.ne_of_gt hlt.1) (Nat.ne_of_gt hlt.2) _).setOther (Nat.ne_of_gt hlt.1) (Nat.ne_of_gt hlt.2) _).setOther (Nat.ne_of_gt hlt.1) (Nat.ne_of_gt hlt.2) _).setOther (Nat.ne_of_gt hlt.1) (Nat.ne_of_gt hlt.2) _).setOther (Nat.ne_of_gt hlt.1) (Nat.ne_of_gt hlt.2) _, ((((((((G9.setNew (Nat.le_refl _) _).setNew (Nat.le_refl _) _).setNew (Nat.le_refl _) _).setNew (Nat.le_refl _) _).setNew (Nat.le_refl _) _).setNew (Nat.le_refl _) _).setNew (Nat.le_refl _) _).setNew (Nat.le_refl _) _).setNew (Nat.le_refl _) _⟩
      · have HE : Hid (Pq.funcR toks len s = (⟨k, Pq.oneOfV toks Pq.colTxt 3 (Pq.wantS toks Pq.wOpen s1), 0, (Pq.frameR toks (Pq.wantS toks Pq.wComma (Pq.oneOfS toks Pq.colTxt 3 (Pq.wantS toks Pq.wOpen s1)))).1⟩, Pq.wantS toks Pq.wClose (Pq.frameR toks (Pq.wantS toks Pq.wComma (Pq.oneOfS toks Pq.colTxt 3 (Pq.wantS toks Pq.wOpen s1)))).2)) := by show _ = _; rw [HF.out, if_neg h3, if_neg h4, if_neg h6]; rfl
        go_wp2_with fail
        refine (want_any H2.out Pq.wOpen).mono ?_
        rintro e w3 ⟨rfl, h3, g3⟩
        have G3 : Gb b w w3 := G2.trans g3
        have L3 := hide (g3.keep L2.out (Nat.ne_of_gt hlt.1))
        have F3 := hide (g3.keep F2.out (Nat.ne_of_gt hltF))
        have H3 := hide h3
        clear g3 h3
        go_wp2_with fail
        refine (readCol_any H3.out).mono ?_
        rintro e w4 ⟨rfl, h4, g4⟩
        have G4 : Gb b w w4 := G3.trans g4
        have L4 := hide (g4.keep L3.out (Nat.ne_of_gt hlt.1))
        have F4 := hide (g4.keep F3.out (Nat.ne_of_gt hltF))
        have H4 := hide h4
        clear g4 h4
        generalize Pq.oneOfV toks Pq.colTxt 3 (Pq.wantS toks Pq.wOpen s1) = cc at *
        have q1 := cell_of_heap F4.out 1
        have qf1 := free_of_heap F4.out 1
        have H5 := hide (H4.out.setOther (a := ⟨w.heap.size + 1, 1, none⟩) (Nat.ne_of_gt hltF) (Nat.ne_of_gt hltG) (.int .i64 (cc : Int)))
        have G5 := (G4.setNew (a := ⟨w.heap.size + 1, 1, none⟩) (Nat.le_succ _) (.int .i64 (cc : Int)))
        have L5 := hide (heap_setOther L4.out (a := ⟨w.heap.size + 1, 1, none⟩) (Nat.succ_ne_self _) (.int .i64 (cc : Int)))
        have F5 : Hid ((w4.setCell ⟨w.heap.size + 1, 1, none⟩ (.int .i64 (cc : Int))).heap[w.heap.size + 1]? = some (.cells #[.int .i64 (k : Int), .int .i64 (cc : Int), .int .i64 0, .int .i64 0, .int .i64 0, .int .i64 0, .int .i64 0, .int .i64 0, .int .i64 0] 223 (0, 0))) := hide (heap_setSame F4.out 1 (.int .i64 (cc : Int)))
        go_wp2_with fail
        refine (want_any H5.out Pq.wComma).mono ?_
        rintro e w6 ⟨rfl, h6, g6⟩
        have G6 : Gb b w w6 := G5.trans g6
        have L6 := hide (g6.keep L5.out (Nat.ne_of_gt hlt.1))
        have F6 := hide (g6.keep F5.out (Nat.ne_of_gt hltF))
        have H6 := hide h6
        clear g6 h6
        go_wp2_with fail
        refine (readFrame_any H6.out).mono ?_
        rintro e w7 ⟨rfl, h7, g7⟩
        have G7 : Gb b w w7 := G6.trans g7
        have L7 := hide (g7.keep L6.out (Nat.ne_of_gt hlt.1))
        have F7 := hide (g7.keep F6.out (Nat.ne_of_gt hltF))
        have H7 := hide h7
        clear g7 h7
        generalize Pq.frameR toks (Pq.wantS toks Pq.wComma (Pq.oneOfS toks Pq.colTxt 3 (Pq.wantS toks Pq.wOpen s1))) = ff at *
        have r3 := cell_of_heap F7.out 3
        have rf3 := free_of_heap F7.out 3
        have r4 := cell_of_heap F7.out 4
        have rf4 := free_of_heap F7.out 4
        have r5 := cell_of_heap F7.out 5
        have rf5 := free_of_heap F7.out 5
        have r6 := cell_of_heap F7.out 6
        have rf6 := free_of_heap F7.out 6
        have r7 := cell_of_heap F7.out 7
        have rf7 := free_of_heap F7.out 7
        have r8 := cell_of_heap F7.out 8
        have rf8 := free_of_heap F7.out 8
        have H8 := hide ((((((H7.out.setOther (a := ⟨w.heap.size + 1, 3, none⟩) (Nat.ne_of_gt hltF) (Nat.ne_of_gt hltG) (.int .i64 (ff.1.kind : Int))).setOther (a := ⟨w.heap.size + 1, 4, none⟩) (Nat.ne_of_gt hltF) (Nat.ne_of_gt hltG) (.int .i64 ff.1.num)).setOther (a := ⟨w.heap.size + 1, 5, none⟩) (Nat.ne_of_gt hltF) (Nat.ne_of_gt hltG) (.int .i64 (ff.1.frm.kind : Int))).setOther (a := ⟨w.heap.size + 1, 6, none⟩) (Nat.ne_of_gt hltF) (Nat.ne_of_gt hltG) (.int .i64 ff.1.frm.num)).setOther (a := ⟨w.heap.size + 1, 7, none⟩) (Nat.ne_of_gt hltF) (Nat.ne_of_gt hltG) (.int .i64 (ff.1.to.kind : Int))).setOther (a := ⟨w.heap.size + 1, 8, none⟩) (Nat.ne_of_gt hltF) (Nat.ne_of_gt hltG) (.int .i64 ff.1.to.num))
        have G8 := ((((((G7.setNew (a := ⟨w.heap.size + 1, 3, none⟩) (Nat.le_succ _) (.int .i64 (ff.1.kind : Int))).setNew (a := ⟨w.heap.size + 1, 4, none⟩) (Nat.le_succ _) (.int .i64 ff.1.num)).setNew (a := ⟨w.heap.size + 1, 5, none⟩) (Nat.le_succ _) (.int .i64 (ff.1.frm.kind : Int))).setNew (a := ⟨w.heap.size + 1, 6, none⟩) (Nat.le_succ _) (.int .i64 ff.1.frm.num)).setNew (a := ⟨w.heap.size + 1, 7, none⟩) (Nat.le_succ _) (.int .i64 (ff.1.to.kind : Int))).setNew (a := ⟨w.heap.size + 1, 8, none⟩) (Nat.le_succ _) (.int .i64 ff.1.to.num))
        have L8 := hide (heap_setOther (heap_setOther (heap_setOther (heap_setOther (heap_setOther (heap_setOther L7.out (a := ⟨w.heap.size + 1, 3, none⟩) (Nat.succ_ne_self _) (.int .i64 (ff.1.kind : Int))) (a := ⟨w.heap.size + 1, 4, none⟩) (Nat.succ_ne_self _) (.int .i64 ff.1.num)) (a := ⟨w.heap.size + 1, 5, none⟩) (Nat.succ_ne_self _) (.int .i64 (ff.1.frm.kind : Int))) (a := ⟨w.heap.size + 1, 6, none⟩) (Nat.succ_ne_self _) (.int .i64 ff.1.frm.num)) (a := ⟨w.heap.size + 1, 7, none⟩) (Nat.succ_ne_self _) (.int .i64 (ff.1.to.kind : Int))) (a := ⟨w.heap.size + 1, 8, none⟩) (Nat.succ_ne_self _) (.int .i64 ff.1.to.num))
        have F8 : Hid (((((((w7.setCell ⟨w.heap.size + 1, 3, none⟩ (.int .i64 (ff.1.kind : Int))).setCell ⟨w.heap.size + 1, 4, none⟩ (.int .i64 ff.1.num)).setCell ⟨w.heap.size + 1, 5, none⟩ (.int .i64 (ff.1.frm.kind : Int))).setCell ⟨w.heap.size + 1, 6, none⟩ (.int .i64 ff.1.frm.num)).setCell ⟨w.heap.size + 1, 7, none⟩ (.int .i64 (ff.1.to.kind : Int))).setCell ⟨w.heap.size + 1, 8, none⟩ (.int .i64 ff.1.to.num)).heap[w.heap.size + 1]? = some (.cells #[.int .i64 (k : Int), .int .i64 (cc : Int), .int .i64 0, .int .i64 (ff.1.kind : Int), .int .i64 ff.1.num, .int .i64 (ff.1.frm.kind : Int), .int .i64 ff.1.frm.num, .int .i64 (ff.1.to.kind : Int), .int .i64 ff.1.to.num] 223 (0, 0))) := hide (heap_setSame (heap_setSame (heap_setSame (heap_setSame (heap_setSame (heap_setSame F7.out 3 (.int .i64 (ff.1.kind : Int))) 4 (.int .i64 ff.1.num)) 5 (.int .i64 (ff.1.frm.kind : Int))) 6 (.int .i64 ff.1.frm.num)) 7 (.int .i64 (ff.1.to.kind : Int))) 8 (.int .i64 ff.1.to.num))
        go_wp2_with fail
        refine (want_any H8.out Pq.wClose).mono ?_
        rintro e w9 ⟨rfl, h9, g9⟩
        have G9 : Gb b w w9 := G8.trans g9
        have L9 := hide (g9.keep L8.out (Nat.ne_of_gt hlt.1))
        have F9 := hide (g9.keep F8.out (Nat.ne_of_gt hltF))
        have H9 := hide h9
        clear g9 h9
        have l0 := cell_of_heap L9.out 0
        have lf0 := free_of_heap L9.out 0
        have l1 := cell_of_heap L9.out 1
        have lf1 := free_of_heap L9.out 1
        have l2 := cell_of_heap L9.out 2
        have lf2 := free_of_heap L9.out 2
        have l3 := cell_of_heap L9.out 3
        have lf3 := free_of_heap L9.out 3
        have l4 := cell_of_heap L9.out 4
        have lf4 := free_of_heap L9.out 4
        have l5 := cell_of_heap L9.out 5
        have lf5 := free_of_heap L9.out 5
        have l6 := cell_of_heap L9.out 6
        have lf6 := free_of_heap L9.out 6
        have l7 := cell_of_heap L9.out 7
        have lf7 := free_of_heap L9.out 7
        have l8 := cell_of_heap L9.out 8
        have lf8 := free_of_heap L9.out 8
        have k0 := cell_of_heap F9.out 0
        have k1 := cell_of_heap F9.out 1
        have k2 := cell_of_heap F9.out 2
        have k3 := cell_of_heap F9.out 3
        have k4 := cell_of_heap F9.out 4
        have k5 := cell_of_heap F9.out 5
        have k6 := cell_of_heap F9.out 6
        have k7 := cell_of_heap F9.out 7
        have k8 := cell_of_heap F9.out 8
        go_wp2
        refine bodyPost_ret (v := .agg #[.int .i64 (k : Int), .int .i64 (cc : Int), .int .i64 0, .int .i64 (ff.1.kind : Int), .int .i64 ff.1.num, .int .i64 (ff.1.frm.kind : Int), .int .i64 ff.1.frm.num, .int .i64 (ff.1.to.kind : Int), .int .i64 ff.1.to.num]) (by simp [results, Tryz.results171, go_sem, l0, l1, l2, l3, l4, l5, l6, l7, l8]) rfl ?_
        rw [HE.out]
        exact ⟨rfl, ((((((((H9.out.setOther (Nat.ne_of_gt hlt.1) (Nat.ne_of_gt hlt.2) _).setOther (Nat.ne_of_gt hlt.1) (Nat.ne_of_gt hlt.2) _).setOther (Nat.ne_of_gt hlt.1) (Nat.ne_of_gt hlt.2) _).setOther (Nat.ne_of_gt hlt.1) (Nat.ne_of_gt hlt.2) _).setOther (Nat.ne_of_gt hlt.1) (Nat.ne_of_gt hlt.2) _).setOther (Nat.ne_of_gt hlt.1) (Nat.ne_of_gt hlt.2) _).setOther (Nat.ne_of_gt hlt.1) (Nat.ne_of_gt hlt.2) _).setOther (Nat.ne_of_gt hlt.1) (Nat.ne_of_gt hlt.2) _).setOther (Nat.ne_of_gt hlt.1) (Nat.ne_of_gt hlt.2) _, ((((((((G9.setNew (Nat.le_refl _) _).setNew (Nat.le_refl _) _).setNew (Nat.le_refl _) _).setNew (Nat.le_refl _) _).setNew (Nat.le_refl _) _).setNew (Nat.le_refl _) _).setNew (Nat.le_refl _) _).setNew (Nat.le_refl _) _).setNew (Nat.le_refl _) _⟩
end Go.Proofs.YtcoofnhdbejnpaaGreatDoor

