/- Package queries: the plain form. -/
import Derived.Test.YtcoofnhdbejnpaaDoorRd
namespace Go.Proofs.YtcoofnhdbejnpaaDoor
open Go.RowKit
/-- what the numbers of a query are -/
structure GoodPS (s : Pq.PS) : Prop where
  by' : ∀ c ∈ s.by', c < 3
  keys : ∀ c ∈ s.keys, c.1 < 3
  funcs : ∀ c ∈ s.funcs, Pq.goodFn c
  top : Pq.goodNum s.top
  frm : Pq.goodNum s.frm
  lby : s.by'.length ≤ 301
  lkey : s.keys.length ≤ 301
  lfun : s.funcs.length ≤ 301
set_option maxHeartbeats 4000000 in
theorem plain_any {w : World} {B : Nat} {vb vk vf : Value} {s : Pq.PS} (h1 : w.ownsRow B 107 1 vb s.by'.length (colCells s.by')) (h2 : w.ownsRow B 109 2 vk s.keys.length (keyCells s.keys)) (h3 : w.ownsRow B 118 9 vf s.funcs.length (fnCells s.funcs)) (hg : GoodPS s) :
    Calls Tryd.prog 18 #[.agg #[vb, vk, vf, .bool s.hasTop, .int .i64 s.top, .int .i64 s.frm]] w fun e w' => e = .returned (.string ⟨(Pq.plainTxt s).toArray⟩) ∧ Below w.heap.size w w' := by
  obtain ⟨a1, p1, rfl⟩ := own_slice h1
  obtain ⟨a2, p2, rfl⟩ := own_slice h2
  obtain ⟨a3, p3, rfl⟩ := own_slice h3
  have HB := hide h1
  have HK := hide h2
  have HFN := hide h3
  have HG1 := hide hg.by'
  have HG2 := hide hg.keys
  have HG3 := hide hg.funcs
  have lb := hg.lby
  have lk := hg.lkey
  have lf := hg.lfun
  obtain ⟨t0, t1⟩ := hg.top
  obtain ⟨f0, f1⟩ := hg.frm
  clear h1 h2 h3 hg
  have e1 := Pq.colsTxt_len s.by'
  have e2 := Pq.keysTxt_len s.keys
  have e3 := Pq.fnsTxt_len s.funcs
  have e4 := Pq.numTxt_len s.top
  have e5 := Pq.numTxt_len s.frm
  have HSZ : Hid ((w.alloc (.cells #[.slice a1 s.by'.length p1, .slice a2 s.keys.length p2, .slice a3 s.funcs.length p3, .bool s.hasTop, .int .i64 s.top, .int .i64 s.frm] 56)).heap.size = w.heap.size + 1) := by show _ = _; simp
  by_cases hb : s.by'.length = 0
  · have hb' : ¬ (0 : Int) < (s.by'.length : Int) := by omega
    have HBY : Hid (Pq.byTxt s.by' = []) := by show _ = _; simp only [Pq.byTxt, if_pos hb]
    have HB0 := hide hb
    clear hb
    go_enter Tryd.func18, Tryd.ntmps18
    go_wp2_with fail
    refine (keysText_any (HK.out.alloc _) (by omega) HG2.out).mono ?_
    rintro e w1 ⟨rfl, rfl⟩
    go_wp2_with fail
    refine (fnsText_any (HFN.out.alloc _) (by omega) HG3.out).mono ?_
    rintro e w2 ⟨rfl, b2⟩
    have hsz := HSZ.out
    rw [hsz] at b2
    have L2 := hide ((b2.block w.heap.size (Nat.lt_succ_self _)).trans (heap_alloc_new w (.cells #[.slice a1 s.by'.length p1, .slice a2 s.keys.length p2, .slice a3 s.funcs.length p3, .bool s.hasTop, .int .i64 s.top, .int .i64 s.frm] 56)))
    have B2 : Below w.heap.size w w2 := ((Below.refl _ _).alloc (Nat.le_refl _) _).trans (b2.mono (Nat.le_succ _))
    clear b2 hsz
    have x3 := cell_of_heap L2.out 3
    have x4 := cell_of_heap L2.out 4
    have x5 := cell_of_heap L2.out 5
    have HPT : Hid (Pq.plainTxt s = [] ++ (Pq.wOrder ++ 32 :: Pq.keysTxt s.keys) ++ (32 :: Pq.wShow ++ 32 :: Pq.fnsTxt s.funcs) ++ Pq.topTxt s) := by show _ = _; unfold Pq.plainTxt; rw [HBY.out]
    cases ht : s.hasTop
    · by_cases hf : 0 < s.frm
      · have HTT : Hid (Pq.topTxt s = [] ++ (32 :: Pq.wFrom ++ 32 :: Pq.numTxt s.frm)) := by show _ = _; simp [Pq.topTxt, ht, hf]
        go_wp2_with fail
        refine (itoa_any s.frm f0 f1 _).mono ?_; rintro e w3 ⟨rfl, rfl⟩
        go_wp2
        go_ret
        rw [HPT.out, HTT.out]
        exact ⟨ret_str (by simp [Pq.wOrder, Pq.wShow, Pq.wFrom]), B2⟩
      · have HTT : Hid (Pq.topTxt s = [] ++ []) := by show _ = _; simp [Pq.topTxt, ht, hf]
        go_wp2
        go_ret
        rw [HPT.out, HTT.out]
        exact ⟨ret_str (by simp [Pq.wOrder, Pq.wShow]), B2⟩
    · by_cases hf : 0 < s.frm
      · have HTT : Hid (Pq.topTxt s = (32 :: Pq.wTop ++ 32 :: Pq.numTxt s.top) ++ (32 :: Pq.wFrom ++ 32 :: Pq.numTxt s.frm)) := by show _ = _; simp [Pq.topTxt, ht, hf]
        go_wp2_with fail
        refine (itoa_any s.top t0 t1 _).mono ?_; rintro e w3 ⟨rfl, rfl⟩
        go_wp2_with fail
        refine (itoa_any s.frm f0 f1 _).mono ?_; rintro e w3 ⟨rfl, rfl⟩
        go_wp2
        go_ret
        rw [HPT.out, HTT.out]
        exact ⟨ret_str (by simp [Pq.wOrder, Pq.wShow, Pq.wTop, Pq.wFrom]), B2⟩
      · have HTT : Hid (Pq.topTxt s = (32 :: Pq.wTop ++ 32 :: Pq.numTxt s.top) ++ []) := by show _ = _; simp [Pq.topTxt, ht, hf]
        go_wp2_with fail
        refine (itoa_any s.top t0 t1 _).mono ?_; rintro e w3 ⟨rfl, rfl⟩
        go_wp2
        go_ret
        rw [HPT.out, HTT.out]
        exact ⟨ret_str (by simp [Pq.wOrder, Pq.wShow, Pq.wTop]), B2⟩
  · have hb' : (0 : Int) < (s.by'.length : Int) := by omega
    have HBY : Hid (Pq.byTxt s.by' = (Pq.wBy ++ 32 :: Pq.colsTxt s.by' ++ [32])) := by show _ = _; simp only [Pq.byTxt, if_neg hb]
    have HB0 := hide hb
    clear hb
    go_enter Tryd.func18, Tryd.ntmps18
    go_wp2_with fail
    refine (colsText_any (HB.out.alloc _) (by omega) HG1.out).mono ?_
    rintro e w1 ⟨rfl, rfl⟩
    go_wp2_with fail
    refine (keysText_any (HK.out.alloc _) (by omega) HG2.out).mono ?_
    rintro e w1 ⟨rfl, rfl⟩
    go_wp2_with fail
    refine (fnsText_any (HFN.out.alloc _) (by omega) HG3.out).mono ?_
    rintro e w2 ⟨rfl, b2⟩
    have hsz := HSZ.out
    rw [hsz] at b2
    have L2 := hide ((b2.block w.heap.size (Nat.lt_succ_self _)).trans (heap_alloc_new w (.cells #[.slice a1 s.by'.length p1, .slice a2 s.keys.length p2, .slice a3 s.funcs.length p3, .bool s.hasTop, .int .i64 s.top, .int .i64 s.frm] 56)))
    have B2 : Below w.heap.size w w2 := ((Below.refl _ _).alloc (Nat.le_refl _) _).trans (b2.mono (Nat.le_succ _))
    clear b2 hsz
    have x3 := cell_of_heap L2.out 3
    have x4 := cell_of_heap L2.out 4
    have x5 := cell_of_heap L2.out 5
    have HPT : Hid (Pq.plainTxt s = (Pq.wBy ++ 32 :: Pq.colsTxt s.by' ++ [32]) ++ (Pq.wOrder ++ 32 :: Pq.keysTxt s.keys) ++ (32 :: Pq.wShow ++ 32 :: Pq.fnsTxt s.funcs) ++ Pq.topTxt s) := by show _ = _; unfold Pq.plainTxt; rw [HBY.out]
    cases ht : s.hasTop
    · by_cases hf : 0 < s.frm
      · have HTT : Hid (Pq.topTxt s = [] ++ (32 :: Pq.wFrom ++ 32 :: Pq.numTxt s.frm)) := by show _ = _; simp [Pq.topTxt, ht, hf]
        go_wp2_with fail
        refine (itoa_any s.frm f0 f1 _).mono ?_; rintro e w3 ⟨rfl, rfl⟩
        go_wp2
        go_ret
        rw [HPT.out, HTT.out]
        exact ⟨ret_str (by simp [Pq.wOrder, Pq.wShow, Pq.wFrom, Pq.wBy]), B2⟩
      · have HTT : Hid (Pq.topTxt s = [] ++ []) := by show _ = _; simp [Pq.topTxt, ht, hf]
        go_wp2
        go_ret
        rw [HPT.out, HTT.out]
        exact ⟨ret_str (by simp [Pq.wOrder, Pq.wShow, Pq.wBy]), B2⟩
    · by_cases hf : 0 < s.frm
      · have HTT : Hid (Pq.topTxt s = (32 :: Pq.wTop ++ 32 :: Pq.numTxt s.top) ++ (32 :: Pq.wFrom ++ 32 :: Pq.numTxt s.frm)) := by show _ = _; simp [Pq.topTxt, ht, hf]
        go_wp2_with fail
        refine (itoa_any s.top t0 t1 _).mono ?_; rintro e w3 ⟨rfl, rfl⟩
        go_wp2_with fail
        refine (itoa_any s.frm f0 f1 _).mono ?_; rintro e w3 ⟨rfl, rfl⟩
        go_wp2
        go_ret
        rw [HPT.out, HTT.out]
        exact ⟨ret_str (by simp [Pq.wOrder, Pq.wShow, Pq.wTop, Pq.wFrom, Pq.wBy]), B2⟩
      · have HTT : Hid (Pq.topTxt s = (32 :: Pq.wTop ++ 32 :: Pq.numTxt s.top) ++ []) := by show _ = _; simp [Pq.topTxt, ht, hf]
        go_wp2_with fail
        refine (itoa_any s.top t0 t1 _).mono ?_; rintro e w3 ⟨rfl, rfl⟩
        go_wp2
        go_ret
        rw [HPT.out, HTT.out]
        exact ⟨ret_str (by simp [Pq.wOrder, Pq.wShow, Pq.wTop, Pq.wBy]), B2⟩
end Go.Proofs.YtcoofnhdbejnpaaDoor
