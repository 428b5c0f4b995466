/- Package queries: Read. -/
import Derived.Test.YtcoofnhdbejnpaaDoorQo
import Derived.Test.YtcoofnhdbejnpaaDoorPlainA
namespace Go.Proofs.YtcoofnhdbejnpaaDoor
open Go.RowKit
/-- what Read answers: an error with nothing beside it, or a query whose three lists are new -/
def ReadPost (l : Pq.Bytes) (B : Nat) (e : Ending) (w' : World) : Prop :=
  (Pq.readE l ≠ 0 ∧ e = .returned (.tuple #[.agg #[.slice none 0 0, .slice none 0 0, .slice none 0 0, .bool false, .int .i64 0, .int .i64 0], .int .i64 (Pq.readE l), .int .i64 (Pq.readP l)])) ∨
  (Pq.readE l = 0 ∧ ∃ vb vk vf, e = .returned (.tuple #[.agg #[vb, vk, vf, .bool (Pq.endPS l).hasTop, .int .i64 (Pq.endPS l).top, .int .i64 (Pq.endPS l).frm], .int .i64 0, .int .i64 0]) ∧
    w'.ownsRow B 107 1 vb (Pq.endPS l).by'.length (colCells (Pq.endPS l).by') ∧ w'.ownsRow B 109 2 vk (Pq.endPS l).keys.length (keyCells (Pq.endPS l).keys) ∧ w'.ownsRow B 118 9 vf (Pq.endPS l).funcs.length (fnCells (Pq.endPS l).funcs) ∧
    (Pq.endPS l).by'.length ≤ 301 ∧ (Pq.endPS l).keys.length ≤ 301 ∧ (Pq.endPS l).funcs.length ≤ 301)
theorem pin_new {w : World} {B g cap len : Nat} {toks : List Pq.Tok} (h : w.ownsRow B 104 3 (.slice (some ⟨g, 0, none⟩) toks.length cap) toks.length (toksCells toks)) (hB : B ≤ w.heap.size) (hb : toks.length ≤ 300) (hg : ∀ t ∈ toks, GoodTok t) :
    PAl (w.alloc (.cells (ps0Cells (.slice (some ⟨g, 0, none⟩) toks.length cap) len) 86)) B w.heap.size g cap len toks (.slice none 0 0) (.slice none 0 0) (.slice none 0 0) Pq.ps0 := by
  refine ⟨⟨heap_alloc_new w _, ?_, Nat.zero_le _, hb, hg⟩, World.ownsRow_nil _ _ _ _, World.ownsRow_nil _ _ _ _, World.ownsRow_nil _ _ _ _, by simp [Pq.ps0], by simp [Pq.ps0], by simp [Pq.ps0], hB⟩
  rcases h.2 with ⟨h0, _⟩ | ⟨g', cap', cur, hv, _, hgg, _, _, _, ht⟩
  · cases h0
  · simp only [Value.slice.injEq, Option.some.injEq, Addr.mk.injEq, and_true, true_and] at hv
    obtain ⟨rfl, rfl⟩ := hv
    refine ⟨cur, heap_keepAlloc hgg _, fun j u hu => ?_⟩
    rw [← ht, List.getElem?_take] at hu
    split at hu
    · simpa using hu
    · cases hu
theorem own_mono {w : World} {B B' T n : Nat} {v : Value} {k : Nat} {xs : List Value} (h : w.ownsRow B T n v k xs) (hB : B' ≤ B) : w.ownsRow B' T n v k xs := by
  refine ⟨h.1, ?_⟩
  rcases h.2 with h' | ⟨g, cap, cur, hv, hb, r⟩
  · exact .inl h'
  · exact .inr ⟨g, cap, cur, hv, Nat.le_trans hB hb, r⟩
theorem own_slice {w : World} {B T n : Nat} {v : Value} {k : Nat} {xs : List Value} (h : w.ownsRow B T n v k xs) : ∃ a c, v = .slice a k c := by
  rcases own_form h with ⟨rfl, rfl⟩ | ⟨g, cap, rfl⟩
  · exact ⟨_, _, rfl⟩
  · exact ⟨_, _, rfl⟩
theorem PIn.cells4 {w : World} {b g cap len : Nat} {toks : List Pq.Tok} {vb vk vf : Value} {s : Pq.PS} (h : PIn w b g cap len toks vb vk vf s) : w.cell? ⟨b, 7, none⟩ = some (.bool s.hasTop) ∧ w.cell? ⟨b, 8, none⟩ = some (.int .i64 s.top) ∧ w.cell? ⟨b, 9, none⟩ = some (.int .i64 s.frm) := by
  simp [World.cell?, h.blk, psCells]
theorem size_of_list (s : ByteArray) : s.data.toList.length = s.size := by simp
set_option maxHeartbeats 1000000 in
theorem read_any (s : ByteArray) (w : World) (hs : s.size ≤ maxLen) :
    Calls Tryd.prog 17 #[.string s] w fun e w' => Below w.heap.size w w' ∧ ReadPost s.data.toList w.heap.size e w' := by
  have hs' := hs
  unfold maxLen at hs'
  by_cases h300 : 300 < s.size
  · have HE : Hid (Pq.readE s.data.toList = 1 ∧ Pq.readP s.data.toList = 0) := Pq.readE_long (by rw [size_of_list]; exact h300)
    go_enter Tryd.func17, Tryd.ntmps17
    go_wp2
    refine bodyPost_ret (v := .tuple #[.agg #[.slice none 0 0, .slice none 0 0, .slice none 0 0, .bool false, .int .i64 0, .int .i64 0], .int .i64 1, .int .i64 0]) (by simp [results, Tryd.results17, go_sem]) rfl ?_
    refine ⟨(Below.refl _ _).alloc (Nat.le_refl _) _, .inl ?_⟩
    rw [HE.out.1, HE.out.2]
    exact ⟨by decide, rfl⟩
  · have L0 := hide (heap_alloc_new w (.cells #[.slice none 0 0, .slice none 0 0, .slice none 0 0, .bool false, .int .i64 0, .int .i64 0] 56))
    go_enter Tryd.func17, Tryd.ntmps17
    go_wp2_with fail
    have HP := hide (split_any s (w.alloc (.cells #[.slice none 0 0, .slice none 0 0, .slice none 0 0, .bool false, .int .i64 0, .int .i64 0] 56)) (by omega))
    refine (HP.out).mono ?_
    rintro e w1 ⟨hb1, hp1⟩
    have hsz : (w.alloc (.cells #[.slice none 0 0, .slice none 0 0, .slice none 0 0, .bool false, .int .i64 0, .int .i64 0] 56)).heap.size = w.heap.size + 1 := by simp
    rw [hsz] at hb1 hp1
    have hsz1 := hb1.size
    rw [hsz] at hsz1
    have L1 := hide ((hb1.block w.heap.size (Nat.lt_succ_self _)).trans L0.out)
    have B1 : Below w.heap.size w w1 := ((Below.refl _ _).alloc (Nat.le_refl _) _).trans (hb1.mono (Nat.le_succ _))
    clear hsz HP L0
    unfold SplitPost at hp1
    by_cases hlex : (Pq.lexFrom s.data.toList 0).2 = -1
    · rw [if_pos hlex] at hp1
      obtain ⟨g, cap, rfl, hown⟩ := hp1
      have HX : Hid (Pq.readE s.data.toList = Pq.faultE (Pq.endPS s.data.toList) ∧ Pq.readP s.data.toList = Pq.faultP (Pq.toksOf s.data.toList) s.size (Pq.endPS s.data.toList)) := by
        have := Pq.readE_ok (l := s.data.toList) (by rw [size_of_list]; exact h300) hlex
        rwa [size_of_list] at this
      have A2 := hide (pin_new (len := s.size) hown hsz1 (by have := Pq.lexFrom_len s.data.toList 0; rw [size_of_list] at this; omega) (Pq.lexFrom_good s.data.toList 0))
      have EQ : Hid (Pq.queryS (Pq.lexFrom s.data.toList 0).1 s.size Pq.ps0 = Pq.endPS s.data.toList) := by show _ = _; unfold Pq.endPS Pq.toksOf; rw [size_of_list]
      have HTK : Hid (Pq.toksOf s.data.toList = (Pq.lexFrom s.data.toList 0).1) := hide rfl
      clear hlex hown
      generalize (Pq.lexFrom s.data.toList 0).1 = toks at *
      go_wp2_with fail
      refine (newParser_any _ _ _ _ _).mono ?_
      rintro e w2 ⟨rfl, rfl⟩
      have L2 := hide (heap_keepAlloc L1.out (.cells (ps0Cells (.slice (some ⟨g, 0, none⟩) toks.length cap) s.size) 86))
      have B2 := B1.alloc B1.size (.cells (ps0Cells (.slice (some ⟨g, 0, none⟩) toks.length cap) s.size) 86)
      go_wp2_with fail
      refine (readQuery_any A2.out rfl rfl rfl).mono ?_
      rintro e w3 ⟨rfl, ⟨vb, vk, vf, h3⟩, g3⟩
      rw [EQ.out] at h3
      have A3 := hide h3
      have B3 := B2.trans (g3.mono (Nat.le_succ _))
      have L3 := hide ((g3.block w.heap.size (Nat.lt_succ_self _)).trans L2.out)
      clear h3 g3 A2 L2 B2 EQ
      go_wp2_with fail
      refine (fault_any A3.out.pin).mono ?_
      rintro e w4 ⟨rfl, nq, rfl⟩
      have A4 := hide (A3.out.moved (A3.out.pin.drewN nq) ((Gb.refl _ w3).drewN nq) rfl rfl rfl (Nat.le_refl _))
      have B4 := below_drewN B3 nq
      have L4 : Hid ((w3.drewN nq).heap[w.heap.size]? = _) := L3
      clear A3 B3 L3
      generalize w3.drewN nq = w4 at *
      by_cases hz : Pq.faultE (Pq.endPS s.data.toList) = 0
      · have hz' : (Pq.faultE (Pq.endPS s.data.toList) != 0) = false := by simp [hz]
        have HZ := hide hz
        clear hz
        obtain ⟨a1, p1, rfl⟩ := own_slice A4.out.oby
        obtain ⟨a2, p2, rfl⟩ := own_slice A4.out.okey
        obtain ⟨a3, p3, rfl⟩ := own_slice A4.out.ofun
        obtain ⟨c4, c5, c6⟩ := A4.out.pin.cells3
        obtain ⟨c7, c8, c9⟩ := A4.out.pin.cells4
        have hne : w.heap.size ≠ w1.heap.size := by omega
        have hne' : w1.heap.size ≠ w.heap.size := by omega
        have l0 := cell_of_heap L4.out 0
        have lf0 := free_of_heap L4.out 0
        have l1 := cell_of_heap L4.out 1
        have lf1 := free_of_heap L4.out 1
        have l2 := cell_of_heap L4.out 2
        have lf2 := free_of_heap L4.out 2
        have l3 := cell_of_heap L4.out 3
        have lf3 := free_of_heap L4.out 3
        have l4 := cell_of_heap L4.out 4
        have lf4 := free_of_heap L4.out 4
        have l5 := cell_of_heap L4.out 5
        have lf5 := free_of_heap L4.out 5
        go_wp2
        refine bodyPost_ret (v := .tuple #[.agg #[.slice a1 (Pq.endPS s.data.toList).by'.length p1, .slice a2 (Pq.endPS s.data.toList).keys.length p2, .slice a3 (Pq.endPS s.data.toList).funcs.length p3, .bool (Pq.endPS s.data.toList).hasTop, .int .i64 (Pq.endPS s.data.toList).top, .int .i64 (Pq.endPS s.data.toList).frm], .int .i64 0, .int .i64 0]) (by simp [results, Tryd.results17, go_sem, l0, l1, l2, l3, l4, l5]) rfl ?_
        refine ⟨(((((B4.setCell (Nat.le_refl _) _).setCell (Nat.le_refl _) _).setCell (Nat.le_refl _) _).setCell (Nat.le_refl _) _).setCell (Nat.le_refl _) _).setCell (Nat.le_refl _) _, .inr ⟨by rw [HX.out.1, HZ.out], _, _, _, rfl, ?_, ?_, ?_, ?_, ?_, ?_⟩⟩
        · exact own_mono (ownsRow_setCell_below (ownsRow_setCell_below (ownsRow_setCell_below (ownsRow_setCell_below (ownsRow_setCell_below (ownsRow_setCell_below A4.out.oby (Nat.lt_succ_self _) _) (Nat.lt_succ_self _) _) (Nat.lt_succ_self _) _) (Nat.lt_succ_self _) _) (Nat.lt_succ_self _) _) (Nat.lt_succ_self _) _) (Nat.le_succ _)
        · exact own_mono (ownsRow_setCell_below (ownsRow_setCell_below (ownsRow_setCell_below (ownsRow_setCell_below (ownsRow_setCell_below (ownsRow_setCell_below A4.out.okey (Nat.lt_succ_self _) _) (Nat.lt_succ_self _) _) (Nat.lt_succ_self _) _) (Nat.lt_succ_self _) _) (Nat.lt_succ_self _) _) (Nat.lt_succ_self _) _) (Nat.le_succ _)
        · exact own_mono (ownsRow_setCell_below (ownsRow_setCell_below (ownsRow_setCell_below (ownsRow_setCell_below (ownsRow_setCell_below (ownsRow_setCell_below A4.out.ofun (Nat.lt_succ_self _) _) (Nat.lt_succ_self _) _) (Nat.lt_succ_self _) _) (Nat.lt_succ_self _) _) (Nat.lt_succ_self _) _) (Nat.lt_succ_self _) _) (Nat.le_succ _)
        · have h1 := A4.out.lby; have h2 := A4.out.pin.le; have h3 := A4.out.pin.bd; omega
        · have h1 := A4.out.lkey; have h2 := A4.out.pin.le; have h3 := A4.out.pin.bd; omega
        · have h1 := A4.out.lfun; have h2 := A4.out.pin.le; have h3 := A4.out.pin.bd; omega
      · have hz' : (Pq.faultE (Pq.endPS s.data.toList) != 0) = true := by simp [hz]
        have HZ := hide hz
        clear hz
        have l0 := cell_of_heap L4.out 0
        have lf0 := free_of_heap L4.out 0
        have l1 := cell_of_heap L4.out 1
        have lf1 := free_of_heap L4.out 1
        have l2 := cell_of_heap L4.out 2
        have lf2 := free_of_heap L4.out 2
        have l3 := cell_of_heap L4.out 3
        have lf3 := free_of_heap L4.out 3
        have l4 := cell_of_heap L4.out 4
        have lf4 := free_of_heap L4.out 4
        have l5 := cell_of_heap L4.out 5
        have lf5 := free_of_heap L4.out 5
        go_wp2
        refine bodyPost_ret (v := .tuple #[.agg #[.slice none 0 0, .slice none 0 0, .slice none 0 0, .bool false, .int .i64 0, .int .i64 0], .int .i64 (Pq.faultE (Pq.endPS s.data.toList)), .int .i64 (Pq.faultP toks s.size (Pq.endPS s.data.toList))]) (by simp [results, Tryd.results17, go_sem, l0, l1, l2, l3, l4, l5]) rfl ?_
        refine ⟨(((((B4.setCell (Nat.le_refl _) _).setCell (Nat.le_refl _) _).setCell (Nat.le_refl _) _).setCell (Nat.le_refl _) _).setCell (Nat.le_refl _) _).setCell (Nat.le_refl _) _, .inl ?_⟩
        rw [HX.out.1, HX.out.2, HTK.out]
        exact ⟨HZ.out, rfl⟩
    · rw [if_neg hlex] at hp1
      subst hp1
      have HX : Hid (Pq.readE s.data.toList = 2 ∧ Pq.readP s.data.toList = (Pq.lexFrom s.data.toList 0).2) := Pq.readE_bad (by rw [size_of_list]; exact h300) hlex
      generalize (Pq.lexFrom s.data.toList 0).2 = bad at *
      have hlex' : (bad != -1) = true := by simp [hlex]
      clear hlex
      have l0 := cell_of_heap L1.out 0
      have lf0 := free_of_heap L1.out 0
      have l1 := cell_of_heap L1.out 1
      have lf1 := free_of_heap L1.out 1
      have l2 := cell_of_heap L1.out 2
      have lf2 := free_of_heap L1.out 2
      have l3 := cell_of_heap L1.out 3
      have lf3 := free_of_heap L1.out 3
      have l4 := cell_of_heap L1.out 4
      have lf4 := free_of_heap L1.out 4
      have l5 := cell_of_heap L1.out 5
      have lf5 := free_of_heap L1.out 5
      go_wp2
      refine bodyPost_ret (v := .tuple #[.agg #[.slice none 0 0, .slice none 0 0, .slice none 0 0, .bool false, .int .i64 0, .int .i64 0], .int .i64 2, .int .i64 bad]) (by simp [results, Tryd.results17, go_sem, l0, l1, l2, l3, l4, l5]) rfl ?_
      refine ⟨(((((B1.setCell (Nat.le_refl _) _).setCell (Nat.le_refl _) _).setCell (Nat.le_refl _) _).setCell (Nat.le_refl _) _).setCell (Nat.le_refl _) _).setCell (Nat.le_refl _) _, .inl ?_⟩
      rw [HX.out.1, HX.out.2]
      exact ⟨by decide, rfl⟩
end Go.Proofs.YtcoofnhdbejnpaaDoor
