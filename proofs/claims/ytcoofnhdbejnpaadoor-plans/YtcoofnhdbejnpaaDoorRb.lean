/- Package queries: edges and frames as texts. -/
import Derived.Test.YtcoofnhdbejnpaaDoorRa
import Derived.Test.YtcoofnhdbejnpaaDoorQe
namespace Go.Proofs.YtcoofnhdbejnpaaDoor
open Go.RowKit
theorem ret_str {a : ByteArray} {l : List UInt8} (h : a.data.toList = l) : Ending.returned (.string a) = .returned (.string ⟨l.toArray⟩) := by rw [bytes_eq h]
set_option maxHeartbeats 400000 in
theorem edgeText_any (x : Pq.Edge) (hx : Pq.goodEdge x) (w : World) :
    Calls Tryd.prog 83 #[.agg #[.int .i64 (x.kind : Int), .int .i64 x.num]] w fun e w' => e = .returned (.string ⟨(Pq.edgeTxt x).toArray⟩) ∧ Below w.heap.size w w' := by
  obtain ⟨k, n⟩ := x
  obtain ⟨h0, h1⟩ := hx
  simp only at h0 h1 ⊢
  by_cases e0 : k = 0
  · subst e0
    go_enter Tryd.func83, Tryd.ntmps83
    go_wp2
    go_ret
    exact ⟨rfl, (Below.refl _ _).alloc (Nat.le_refl _) _⟩
  · by_cases e1 : k = 1
    · subst e1
      go_enter Tryd.func83, Tryd.ntmps83
      go_wp2
      go_ret
      exact ⟨rfl, (Below.refl _ _).alloc (Nat.le_refl _) _⟩
    · by_cases e2 : k = 2
      · subst e2
        go_enter Tryd.func83, Tryd.ntmps83
        go_wp2
        go_ret
        exact ⟨rfl, (Below.refl _ _).alloc (Nat.le_refl _) _⟩
      · have hl := Pq.numTxt_len n
        by_cases e3 : k = 3
        · subst e3
          go_enter Tryd.func83, Tryd.ntmps83
          go_wp2_with (go_at_call 25; refine (itoa_any n h0 h1 _).mono ?_; rintro e w' ⟨rfl, rfl⟩)
          go_ret
          exact ⟨ret_str (by simp [Pq.edgeTxt, Pq.wBack]), (Below.refl _ _).alloc (Nat.le_refl _) _⟩
        · have hk : 4 ≤ k := by omega
          have HE : Hid (Pq.edgeTxt ⟨k, n⟩ = Pq.numTxt n ++ 32 :: Pq.wOn) := by show _ = _; simp [Pq.edgeTxt, e0, e1, e2, e3]
          clear e0 e1 e2 e3
          go_enter Tryd.func83, Tryd.ntmps83
          go_wp2_with (go_at_call 25; refine (itoa_any n h0 h1 _).mono ?_; rintro e w' ⟨rfl, rfl⟩)
          go_ret
          rw [HE.out]
          exact ⟨ret_str (by simp [Pq.wOn]), (Below.refl _ _).alloc (Nat.le_refl _) _⟩
set_option maxHeartbeats 1000000 in
theorem frameText_any (x : Pq.Frame) (hx : Pq.goodFrame x) (w : World) :
    Calls Tryd.prog 68 #[.agg #[.int .i64 (x.kind : Int), .int .i64 x.num, .int .i64 (x.frm.kind : Int), .int .i64 x.frm.num, .int .i64 (x.to.kind : Int), .int .i64 x.to.num]] w fun e w' => e = .returned (.string ⟨(Pq.frameTxt x).toArray⟩) ∧ Below w.heap.size w w' := by
  obtain ⟨k, n, fe, te⟩ := x
  obtain ⟨⟨h0, h1⟩, h2, h3⟩ := hx
  simp only at h0 h1 h2 h3 ⊢
  have hl := Pq.numTxt_len n
  by_cases e0 : k = 0
  · subst e0
    go_enter Tryd.func68, Tryd.ntmps68
    go_wp2
    go_ret
    exact ⟨rfl, (Below.refl _ _).alloc (Nat.le_refl _) _⟩
  · by_cases e1 : k = 1
    · subst e1
      go_enter Tryd.func68, Tryd.ntmps68
      go_wp2
      go_ret
      exact ⟨rfl, (Below.refl _ _).alloc (Nat.le_refl _) _⟩
    · by_cases e2 : k = 2
      · subst e2
        go_enter Tryd.func68, Tryd.ntmps68
        go_wp2_with (go_at_call 25; refine (itoa_any n h0 h1 _).mono ?_; rintro e w' ⟨rfl, rfl⟩)
        go_ret
        exact ⟨ret_str (by simp [Pq.frameTxt, Pq.wNear]), (Below.refl _ _).alloc (Nat.le_refl _) _⟩
      · have hk : 3 ≤ k := by omega
        have HE : Hid (Pq.frameTxt ⟨k, n, fe, te⟩ = Pq.edgeTxt fe ++ (32 :: Pq.wTo ++ [32]) ++ Pq.edgeTxt te) := by show _ = _; simp [Pq.frameTxt, e0, e1, e2]
        clear e0 e1 e2
        have H2 := hide h2
        have H3 := hide h3
        clear h2 h3
        have hl1 := Pq.edgeTxt_len fe
        have hl2 := Pq.edgeTxt_len te
        go_enter Tryd.func68, Tryd.ntmps68
        go_wp2_with fail
        refine (edgeText_any fe H2.out _).mono ?_
        rintro e w1 ⟨rfl, b1⟩
        have hsz : (w.alloc (.cells #[.int .i64 (k : Int), .int .i64 n, .int .i64 (fe.kind : Int), .int .i64 fe.num, .int .i64 (te.kind : Int), .int .i64 te.num] 116)).heap.size = w.heap.size + 1 := by simp
        rw [hsz] at b1
        have L1 := hide ((b1.block w.heap.size (Nat.lt_succ_self _)).trans (heap_alloc_new w _))
        have B1 : Below w.heap.size w w1 := ((Below.refl _ _).alloc (Nat.le_refl _) _).trans (b1.mono (Nat.le_succ _))
        have x4 := cell_of_heap L1.out 4
        have x5 := cell_of_heap L1.out 5
        clear b1 hsz
        go_wp2_with fail
        refine (edgeText_any te H3.out _).mono ?_
        rintro e w2 ⟨rfl, b2⟩
        have B2 := B1.trans (b2.mono B1.size)
        clear b2
        go_wp2
        go_ret
        rw [HE.out]
        exact ⟨ret_str (by simp [Pq.wTo]), B2⟩
end Go.Proofs.YtcoofnhdbejnpaaDoor
