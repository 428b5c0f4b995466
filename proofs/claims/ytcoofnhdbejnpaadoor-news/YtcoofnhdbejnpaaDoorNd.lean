/- Package paneslaw: News answers true. -/
import Derived.Test.YtcoofnhdbejnpaaDoorNc
namespace Go.Proofs.YtcoofnhdbejnpaaDoor
open Go.RowKit
theorem add_four (a : Addr) (n : Nat) : a.add (n + 4) = ⟨(a.add n).block, (a.add n).off + 4, none⟩ := by
  unfold Addr.add
  by_cases h : n = 0
  · subst h; simp
  · simp [h]; omega
def NInv (w : World) (k : Nat) (wr : World) : Prop :=
  Below w.heap.size w wr ∧ ∃ n vx vy r2 r3 r4 r5 r6 r7 xs ys, n ≤ k ∧ MW wr w.heap.size (w.heap.size + 1) vx vy r2 r3 r4 r5 r6 r7 n n xs ys
theorem NInv.up {w wr : World} {k : Nat} (h : NInv w k wr) : NInv w (k + 1) wr := by
  obtain ⟨hb, n, vx, vy, r2, r3, r4, r5, r6, r7, xs, ys, hn, M⟩ := h
  exact ⟨hb, n, vx, vy, r2, r3, r4, r5, r6, r7, xs, ys, by omega, M⟩
theorem NInv.start (w : World) : NInv w 0 (w.alloc (.cells #[.slice none 0 0, .slice none 0 0, .slice none 0 0, .slice none 0 0, .slice none 0 0, .slice none 0 0, .slice none 0 0, .slice none 0 0] 42)) :=
  ⟨(Below.refl _ _).alloc (Nat.le_refl _) _, 0, .slice none 0 0, .slice none 0 0, _, _, _, _, _, _, [], [], Nat.le_refl _, heap_alloc_new w _, World.ownsRow_nil _ _ _ _, World.ownsRow_nil _ _ _ _, (fun g h => by cases h), by omega, by simp⟩
theorem NInv.step {w wr : World} {k : Nat} (s : ByteArray) (h : NInv w k wr) (hs : s.size ≤ maxLen) (hk : k ≤ 1954687338269) :
    Calls Tryd.prog 9 #[.pointer (some ⟨w.heap.size, 0, none⟩), .string s] wr fun e w' => e = .returned (.bool true) ∧ NInv w (k + 1) w' := by
  obtain ⟨hb, n, vx, vy, r2, r3, r4, r5, r6, r7, xs, ys, hn, M⟩ := h
  refine (made_any s wr hs M.blk M.ox M.oy M.bB M.sz M.dis (by omega)).mono ?_
  rintro e w' ⟨rfl, ⟨_, b'⟩ | ⟨_, w2, gx, gy, vx', vy', vb, vk, vf, yb, yk, yf, P, vals, b2, bt, _, _, _, _, _, _, hblk, hx, hy, hd, _, _⟩⟩
  · refine ⟨rfl, hb.trans (b'.mono hb.size), n, vx, vy, r2, r3, r4, r5, r6, r7, xs, ys, by omega, ⟨?_, own_below M.ox b', own_below M.oy b', M.dis, M.bB, Nat.le_trans M.sz b'.size⟩⟩
    rw [b'.block _ (Array.getElem?_eq_some_iff.1 M.blk).1]; exact M.blk
  · refine ⟨rfl, ?_, n + 1, vx', vy', r2, r3, r4, r5, r6, r7, _, _, by omega, ⟨hblk, hx, hy, hd, M.bB, Nat.le_trans M.sz (Nat.le_trans b2.size bt.size)⟩⟩
    have h2 : Below w.heap.size w w2 := hb.trans (b2.mono hb.size)
    refine h2.trans (bt.below ?_ h2.size)
    rintro k hk (e | e | e)
    · omega
    · have := own_at M.ox e; omega
    · have := own_at M.oy e; omega
set_option maxRecDepth 100000 in
set_option maxHeartbeats 1000000 in
theorem news_walk (a : Addr) (len cap : Nat) (K : Nat → Int) (S : Nat → ByteArray) (w : World) (hl : len ≤ 1954687338268) (ha : 0 < len → a.block < w.heap.size)
    (hc : ∀ i, i < len → w.cell? (a.add (i * 6)) = some (.int .i64 (K i)) ∧ w.cell? (a.add (i * 6 + 4)) = some (.string (S i)) ∧ (S i).size ≤ maxLen) :
    Calls Tryd.prog 5 #[.slice (some a) len cap] w fun e w' => e = .returned (.bool true) ∧ Below w.heap.size w w' := by
  have HC := hide hc
  clear hc
  go_enter Tryd.func5, Tryd.ntmps5
  go_wp2_with fail
  refine ((NInv.start w).step _ (by decide) (by omega)).mono ?_
  rintro e w1 ⟨rfl, i1⟩
  have HI := hide i1
  clear i1
  go_wp2_with fail
  go_loopw [4, 5] (fun o i wr => ∃ k : Nat, k ≤ len ∧ o = .bool true ∧ i = .int .i64 k ∧ NInv w (k + 1) wr) (fun _ i _ => len - (intOf i).toNat)
  case atStart => exact ⟨0, by omega, rfl, rfl, HI.out⟩
  case round =>
    obtain ⟨k, hk, rfl, rfl, hi⟩ := hrel
    have hb := hi.1
    have HI := hide hi
    clear hi
    by_cases hlt : k < len
    · obtain ⟨c0, c4, hsz⟩ := HC.out k hlt
      have d0 := (hb.cell (p := a.add (k * 6)) (by unfold Addr.add; split <;> exact ha (by omega))).trans c0
      have d4 := (hb.cell (p := a.add (k * 6 + 4)) (by unfold Addr.add; split <;> exact ha (by omega))).trans c4
      rw [add_four] at d4
      clear c0 c4
      have hlt' : (k : Int) < (len : Int) := by omega
      by_cases h2 : K k = 2
      · have h2b : (K k == 2) = true := by simp [h2]
        clear h2
        go_wp2_with fail
        refine (HI.out.step (S k) hsz (by omega)).mono ?_
        rintro e w2 ⟨rfl, i2⟩
        go_wp2
        go_roundw
        case rel => exact ⟨k + 1, by omega, rfl, by go_num, i2⟩
        case measure => simp [intOf]; omega
      · have h2b : (K k == 2) = false := by simp [h2]
        clear h2
        by_cases h1 : K k = 1
        · have h1b : (K k == 1) = true := by simp [h1]
          clear h1
          go_wp2_with fail
          refine (HI.out.step (S k) hsz (by omega)).mono ?_
          rintro e w2 ⟨rfl, i2⟩
          go_wp2
          go_roundw
          case rel => exact ⟨k + 1, by omega, rfl, by go_num, i2⟩
          case measure => simp [intOf]; omega
        · have h1b : (K k == 1) = false := by simp [h1]
          clear h1
          go_wp2
          go_roundw
          case rel => exact ⟨k + 1, by omega, rfl, by go_num, HI.out.up⟩
          case measure => simp [intOf]; omega
    · have hlt' : ¬ (k : Int) < (len : Int) := by omega
      go_wp2
      go_ret
      exact ⟨rfl, hb⟩
theorem news_walk0 (w : World) : Calls Tryd.prog 5 #[.slice none 0 0] w fun e w' => e = .returned (.bool true) ∧ Below w.heap.size w w' := by
  go_enter Tryd.func5, Tryd.ntmps5
  go_wp2_with fail
  refine ((NInv.start w).step _ (by decide) (by omega)).mono ?_
  rintro e w1 ⟨rfl, i1⟩
  have hb := i1.1
  clear i1
  go_wp2_with fail
  go_loopw [4, 5] (fun o i wr => o = .bool true ∧ i = .int .i64 0 ∧ Below w.heap.size w wr) (fun _ _ _ => 0)
  case atStart => exact ⟨rfl, rfl, hb⟩
  case round =>
    obtain ⟨rfl, rfl, hb⟩ := hrel
    go_wp2
    go_ret
    exact ⟨rfl, hb⟩
end Go.Proofs.YtcoofnhdbejnpaaDoor
