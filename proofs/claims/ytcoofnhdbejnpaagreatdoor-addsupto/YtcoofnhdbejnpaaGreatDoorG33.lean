/- Package paneskeep: covers. -/
import Derived.Test.YtcoofnhdbejnpaaGreatDoorG32
namespace Go.Proofs.YtcoofnhdbejnpaaGreatDoor
open Go.RowKit
/-- is the out row in the list, with as many copies -/
def metC (x : Pv.Out) (l : List Pv.Out) : Bool := l.any (fun y => (Pk.cmpL (Pk.keyL x) (Pk.keyL y) == 0) && (x.2.2 == y.2.2))
theorem metC_take (x : Pv.Out) (l : List Pv.Out) (k : Nat) (h : k < l.length) : metC x (l.take (k + 1)) = (metC x (l.take k) || ((Pk.cmpL (Pk.keyL x) (Pk.keyL l[k]) == 0) && (x.2.2 == l[k].2.2))) := by
  unfold metC
  rw [List.take_succ_eq_append_getElem h, List.any_append]
  simp
def nzl (l : List Pv.Out) : Nat := (l.filter (fun x => !(x.2.2 == 0))).length
theorem nzl_take (l : List Pv.Out) (k : Nat) (h : k < l.length) : nzl (l.take (k + 1)) = nzl (l.take k) + (if l[k].2.2 == 0 then 0 else 1) := by
  unfold nzl
  rw [List.take_succ_eq_append_getElem h, List.filter_append, List.length_append]
  congr 1
  cases hq : (l[k].2.2 == 0)
  · simp [hq]
  · simp [hq]
theorem nzl_le (l : List Pv.Out) : nzl l ≤ l.length := List.length_filter_le _ _
set_option maxRecDepth 100000 in
set_option maxHeartbeats 2000000 in
theorem covers_any {w : World} {a b : List Pv.Out} {va vb : Value} {n : Nat} (ha : RdO w va a) (hb : RdO w vb b) (hal : a.length ≤ 1000000000000000) (hbl : b.length ≤ 1000000) (la : ∀ x ∈ a, x.2.1.length = n) (lb : ∀ x ∈ b, x.2.1.length = n) (hn : n ≤ 1000) (hm : ∀ x ∈ a, x.2.2 ≠ 0 → metC x b = true) (hc : nzl a = b.length) :
    Calls Tryz.prog 27 #[va, vb] w fun e w' => e = .returned (.bool true) ∧ Below w.heap.size w w' := by
  obtain ⟨xa, ca, rfl⟩ := ha.sl
  obtain ⟨xb, cb, rfl⟩ := hb.sl
  have HA := hide ha
  have HB := hide hb
  have HLA := hide la
  have HLB := hide lb
  have HM := hide hm
  have HC := hide hc
  clear ha hb la lb hm hc
  go_enter Tryz.func27, Tryz.ntmps27
  go_wp2
  go_loopw [5, 6] (fun c i wr => ∃ k : Nat, k ≤ a.length ∧ i = .int .i64 k ∧ c = .int .i64 (nzl (a.take k) : Nat) ∧ Hid (Below w.heap.size w wr)) (fun _ i _ => a.length - (intOf i).toNat)
  case atStart => exact ⟨0, by omega, rfl, rfl, Below.refl _ _⟩
  case round =>
    obtain ⟨k, hk, rfl, rfl, B1⟩ := hrel
    by_cases hkl : k < a.length
    · have hkl' : (k : Int) < (a.length : Int) := by omega
      have R1 := hide (HA.out.below B1.out)
      obtain ⟨g6, off6, c6', e6, hc6⟩ := R1.out.form1 (by omega)
      cases e6
      obtain ⟨xk, ck, hrd, k0, k1, k2, k3, k4⟩ := R1.out.cell k hkl
      have hvl := HLA.out _ (List.getElem_mem hkl)
      have HNT := hide (nzl_take a k hkl)
      have hnz := nzl_le (a.take k)
      rw [List.length_take] at hnz
      have HMK := hide (HM.out _ (List.getElem_mem hkl))
      generalize nzl (a.take k) = cn at *
      cases hz : (a[k].2.2 == 0)
      · rw [hz] at HNT
        have hne : a[k].2.2 ≠ 0 := by rw [beq_eq_false_iff_ne] at hz; exact hz
        have HME := hide (HMK.out hne)
        clear hrd k0 k1 k2 k3
        generalize wr = wa at *
        go_upto_region 8 with fail
        go_wp2
        go_loopw [7, 8] (fun mt i wz => ∃ j : Nat, j ≤ b.length ∧ i = .int .i64 j ∧ mt = .bool (metC a[k] (b.take j)) ∧ Hid (Below w.heap.size w wz)) (fun _ i _ => b.length - (intOf i).toNat)
        case atStart => exact ⟨0, by omega, rfl, rfl, B1⟩
        case round =>
          obtain ⟨j, hj, rfl, rfl, B2⟩ := hrel
          by_cases hjl : j < b.length
          · have hjl' : (j : Int) < (b.length : Int) := by omega
            have R2 := hide (HA.out.below B2.out)
            have S2 := hide (HB.out.below B2.out)
            obtain ⟨xk2, ck2, hrd, k0, k1, k2, k3, k4⟩ := R2.out.cell k hkl
            obtain ⟨g7, off7, c7', e7, _⟩ := S2.out.form1 (by omega)
            cases e7
            obtain ⟨xj, cj, hrj, j0, j1, j2, j3, j4⟩ := S2.out.cell j hjl
            have hvj := HLB.out _ (List.getElem_mem hjl)
            have HMT := hide (metC_take a[k] b j hjl)
            rw [hvl] at hrd k3
            rw [hvj] at hrj j3
            have HRD := hide hrd
            have HRJ := hide hrj
            clear hrd hrj
            go_upto_region 11 with fail
            go_still_tail 8, (by kernel_rfl)
            go_wp2_with fail
            refine (order_any a[k] b[j] (HRD.out.below (below_drew0 _)) (HRJ.out.below (below_drew0 _)) (by rw [hvl, hvj]) (by omega)).mono ?_
            rintro e wz ⟨rfl, bz⟩
            replace bz := undrew bz
            have B3 := hide (B2.out.trans (bz.mono B2.out.size))
            have R3 := hide (HA.out.below B3.out)
            have S3 := hide (HB.out.below B3.out)
            obtain ⟨_, _, _, _, _, _, _, p4⟩ := R3.out.cell k hkl
            obtain ⟨_, _, _, _, _, _, _, q4⟩ := S3.out.cell j hjl
            clear bz k0 k1 k2 k3 k4 j0 j1 j2 j3 j4 B2
            generalize metC a[k] (b.take j) = mt at *
            generalize Pk.cmpL (Pk.keyL a[k]) (Pk.keyL b[j]) = cc at *
            cases mt
            · cases ho : (cc == 0)
              · go_wp2
                go_quiet (fail)
                go_wp2
                go_roundw
                case rel => exact ⟨j + 1, by omega, by go_num, by rw [HMT.out, ho]; rfl, below_drewM B3.out _⟩
                case measure => simp [intOf]; omega
              · cases hq : (a[k].2.2 == b[j].2.2)
                · go_wp2
                  go_quiet (fail)
                  go_wp2
                  go_roundw
                  case rel => exact ⟨j + 1, by omega, by go_num, by rw [HMT.out, ho, hq]; rfl, below_drewM B3.out _⟩
                  case measure => simp [intOf]; omega
                · go_wp2
                  go_quiet (fail)
                  go_wp2
                  go_roundw
                  case rel => exact ⟨j + 1, by omega, by go_num, by rw [HMT.out, ho, hq]; rfl, below_drewM B3.out _⟩
                  case measure => simp [intOf]; omega
            · go_wp2
              go_quiet (fail)
              go_wp2
              go_roundw
              case rel => exact ⟨j + 1, by omega, by go_num, by rw [HMT.out]; rfl, below_drewM B3.out _⟩
              case measure => simp [intOf]; omega
          · have hjl' : ¬ (j : Int) < (b.length : Int) := by omega
            rw [List.take_of_length_le (by omega), HME.out]
            go_wp2
            go_roundw
            case rel => exact ⟨k + 1, by omega, by go_num, by rw [HNT.out]; go_num, B2⟩
            case measure => simp [intOf]; omega
      · rw [hz] at HNT
        go_wp2
        go_roundw
        case rel => exact ⟨k + 1, by omega, by go_num, by rw [HNT.out]; rfl, B1⟩
        case measure => simp [intOf]; omega
    · have hkl' : ¬ (k : Int) < (a.length : Int) := by omega
      rw [List.take_of_length_le (by omega), HC.out]
      go_wp2
      go_ret
      exact ⟨by simp, B1.out⟩
end Go.Proofs.YtcoofnhdbejnpaaGreatDoor

/- Package paneskeep: joined, its lists: what is added in place. -/
namespace Go.Proofs.YtcoofnhdbejnpaaGreatDoor
open Go.RowKit
theorem routs_setN : ∀ (l : List Pv.Out) (vs : List Value) (_ : vs.length = l.length) (j : Nat) (hj : j < l.length) (m : Int), routs (l.set j (l[j].1, l[j].2.1, m)) vs = (routs l vs).set (j * 5 + 4) (.int .i64 m)
  | [], _, _, j, hj, _ => by simp at hj
  | o :: l, [], h, _, _, _ => by simp at h
  | o :: l, s :: vs, h, 0, _, m => by simp [routs, oc]
  | o :: l, s :: vs, h, j + 1, hj, m => by
    have ih := routs_setN l vs (by simpa using h) j (by simpa using hj) m
    have e : (j + 1) * 5 + 4 = (j * 5 + 4) + 5 := by omega
    rw [e]
    simp only [routs, oc, List.set_cons_succ, List.getElem_cons_succ, List.zip_cons_cons, List.flatMap_cons, List.cons_append, List.nil_append] at ih ⊢
    rw [ih]
/-- the number of copies of one out row is written -/
theorem OwnO.setN {w : World} {B g cap n : Nat} {l : List Pv.Out} (h : OwnO w B (.slice (some ⟨g, 0, none⟩) n cap) l) (j : Nat) (hj : j < l.length) (m : Int) : OwnO (w.setCell ⟨g, j * 5 + 4, none⟩ (.int .i64 m)) B (.slice (some ⟨g, 0, none⟩) n cap) (l.set j (l[j].1, l[j].2.1, m)) := by
  obtain ⟨vs, hv, ho⟩ := h
  have hne : ∀ k, some g = some k → ∃ cur T' fz, w.heap[k]? = some (.cells cur T' fz) ∧ T' ≠ 52 := fun k hk => by
    cases hk
    obtain ⟨cur, fz, h⟩ := own_type ho (k := g) rfl
    exact ⟨cur, _, fz, h, by decide⟩
  have hv2 := hv.kept (grown_set w g (j * 5 + 4) (.int .i64 m)) hne
  refine ⟨vs, ⟨by rw [List.length_set]; exact hv.1, fun i h1 h2 => ?_⟩, ?_⟩
  · have e : ((l.set j (l[j].1, l[j].2.1, m))[i]'h2).2.1 = (l[i]'(by simpa using h2)).2.1 := by
      rw [List.getElem_set]
      split
      · rename_i q; subst q; rfl
      · rfl
    rw [e]
    exact hv2.2 i h1 (by simpa using h2)
  · rw [routs_setN l vs hv.1 j hj m, List.length_set]
    have hl := ho.1
    refine ⟨by rw [List.length_set]; exact hl, ?_⟩
    rcases ho.2 with ⟨h1, _⟩ | ⟨g', cap', cur, h1, h2, h3, h4, h5, h6, h7⟩
    · cases h1
    · cases h1
      refine .inr ⟨g, cap, cur.setIfInBounds (j * 5 + 4) (.int .i64 m), rfl, h2, ?_, h4, h5, by simpa using h6, ?_⟩
      · simp [World.setCell, Array.getElem?_modify, h3]
      · rw [← h7]
        simp only [Array.toList_setIfInBounds]
        rw [List.take_set]
/-- an out row more, m times, added to the first j -/
def mixJ (o : Pv.R3 × List Pv.Val) (m : Int) (L : List Pv.Out) (j : Nat) : List Pv.Out := cntM o m (L.take j) ++ L.drop j
theorem mixJ_zero (o : Pv.R3 × List Pv.Val) (m : Int) (L : List Pv.Out) : mixJ o m L 0 = L := by simp [mixJ, cntM]
theorem mixJ_all (o : Pv.R3 × List Pv.Val) (m : Int) (L : List Pv.Out) {j : Nat} (h : L.length ≤ j) : mixJ o m L j = cntM o m L := by
  unfold mixJ
  rw [List.take_of_length_le h, List.drop_eq_nil_of_le h, List.append_nil]
theorem mixJ_len (o : Pv.R3 × List Pv.Val) (m : Int) (L : List Pv.Out) (j : Nat) : (mixJ o m L j).length = L.length := by
  unfold mixJ cntM
  rw [List.length_append, List.length_map, List.length_take, List.length_drop]; omega
theorem mixJ_get (o : Pv.R3 × List Pv.Val) (m : Int) (L : List Pv.Out) (j : Nat) (hj : j < L.length) (h : j < (mixJ o m L j).length) : (mixJ o m L j)[j] = L[j] := by
  have e : (mixJ o m L j)[j]? = L[j]? := by
    have hc : (cntM o m (L.take j)).length = j := by unfold cntM; rw [List.length_map, List.length_take]; omega
    unfold mixJ
    rw [List.getElem?_append_right (by omega), hc, Nat.sub_self, List.getElem?_drop, Nat.add_zero]
  rw [List.getElem?_eq_getElem h, List.getElem?_eq_getElem hj] at e
  exact Option.some.inj e
theorem mixJ_succ (o : Pv.R3 × List Pv.Val) (m : Int) (L : List Pv.Out) (j : Nat) (hj : j < L.length) : mixJ o m L (j + 1) = if L[j].1 = o.1 ∧ L[j].2.1 = o.2 then (mixJ o m L j).set j (L[j].1, L[j].2.1, L[j].2.2 + m) else mixJ o m L j := by
  have hc : (cntM o m (L.take j)).length = j := by unfold cntM; rw [List.length_map, List.length_take]; omega
  have e1 : cntM o m (L.take (j + 1)) = cntM o m (L.take j) ++ [if L[j].1 = o.1 ∧ L[j].2.1 = o.2 then (L[j].1, L[j].2.1, L[j].2.2 + m) else L[j]] := by
    unfold cntM
    rw [List.take_succ_eq_append_getElem hj, List.map_append]
    rfl
  unfold mixJ
  rw [e1]
  by_cases hq : L[j].1 = o.1 ∧ L[j].2.1 = o.2
  · rw [if_pos hq, if_pos hq, List.set_append_right _ _ (by omega), hc, Nat.sub_self, List.drop_eq_getElem_cons hj, List.set_cons_zero]
    simp
  · rw [if_neg hq, if_neg hq, List.drop_eq_getElem_cons hj]
    simp
/-- where no two are alike, none ahead is met where one is -/
theorem met_none {o : Pv.R3 × List Pv.Val} {L : List Pv.Out} (h : Pk.OneO L) {j : Nat} (hj : j < L.length) (hq : L[j].1 = o.1 ∧ L[j].2.1 = o.2) : metF o (L.take j) = false := by
  rw [Bool.eq_false_iff]
  intro hm
  obtain ⟨x, hx, hx2⟩ := List.any_eq_true.1 hm
  obtain ⟨i, hi, rfl⟩ := List.getElem_of_mem hx
  rw [List.length_take] at hi
  rw [List.getElem_take] at hx2
  have hp := List.pairwise_iff_getElem.1 h i j (by omega) hj (by omega)
  simp only [Bool.and_eq_true, decide_eq_true_eq] at hx2
  exact hp ⟨hx2.1.trans hq.1.symm, hx2.2.trans hq.2.symm⟩
end Go.Proofs.YtcoofnhdbejnpaaGreatDoor

