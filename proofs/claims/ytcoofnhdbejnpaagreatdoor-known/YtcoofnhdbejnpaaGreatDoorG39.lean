/- Package outs: add. -/
import Derived.Test.YtcoofnhdbejnpaaGreatDoorG38
namespace Go.Proofs.YtcoofnhdbejnpaaGreatDoor
open Go.RowKit
/-- behind the append and the store of the list -/
structure JW (w wy : World) (b B bo g6 cap6 : Nat) (P : List POut) (cs : Array Value) (y : POut) : Prop where
  hb : wy.heap[b]? = some (.cells #[.slice (some ⟨g6, 0, none⟩) P.length cap6] 118 (0, 0))
  own : OwnP wy B (.slice (some ⟨g6, 0, none⟩) P.length cap6) P
  box : Blk wy bo cs 55
  bel : Below B w wy
  n1 : g6 ≠ bo
  n2 : g6 ≠ b
  n3 : B ≤ g6
  ry : RdV wy y.2 y.1.2.1
theorem JW.push {w w2 W w6 : World} {b B bo g6 cap6 H : Nat} {v : Value} {P : List POut} {y : POut} {cs : Array Value} (hBb : B ≤ b) (hbo : b ≠ bo) (hx2 : Blk w2 bo cs 55) (HB2 : w2.heap[b]? = some (.cells #[v] 118 (0, 0))) (hP : OwnP w2 B v P) (hy : RdV w2 y.2 y.1.2.1) (hbel : Below B w w2) (hBw : B ≤ w2.heap.size) (HNE : ∀ k, v.ownBlock = some k → k ≠ b ∧ k ≠ bo)
    (hW : Below w2.heap.size w2 W) (hg : W.grownBy w6 v.ownBlock) (hat : v.ownBlock = some g6 ∨ g6 = H) (hH : w2.heap.size ≤ H) (hown : w6.ownsRow B 55 5 (.slice (some ⟨g6, 0, none⟩) (P.length + 1) cap6) (P.length + 1) (pouts P ++ oc y.1 y.2)) :
    w6.heap[b]? = some (.cells #[v] 118 (0, 0)) ∧ JW w (w6.setCell ⟨b, 0, none⟩ (.slice (some ⟨g6, 0, none⟩) (P.length + 1) cap6)) b B bo g6 cap6 (P ++ [y]) cs y := by
  have hbl : b < w2.heap.size := (Array.getElem?_eq_some_iff.1 HB2).1
  have hbol : bo < w2.heap.size := (Array.getElem?_eq_some_iff.1 hx2).1
  have hb6 : w6.heap[b]? = some (.cells #[v] 118 (0, 0)) := by
    rw [hg.block b (Nat.lt_of_lt_of_le hbl hW.size) (fun e => (HNE b e.symm).1 rfl), hW.block b hbl]
    exact HB2
  have hx6 : Blk w6 bo cs 55 := by
    unfold Blk
    rw [hg.block _ (Nat.lt_of_lt_of_le hbol hW.size) (fun e => (HNE _ e.symm).2 rfl), hW.block _ hbol]
    exact hx2
  have n2 : g6 ≠ b := by
    rcases hat with h | h
    · exact (HNE _ h).1
    · omega
  have n1 : g6 ≠ bo := by
    rcases hat with h | h
    · exact (HNE _ h).2
    · omega
  have n3 : B ≤ g6 := by
    rcases hat with h | h
    · exact (hP.row.lt g6 h).1
    · omega
  have hgT : ∀ k, v.ownBlock = some k → ∃ cur T' fz, W.heap[k]? = some (.cells cur T' fz) ∧ T' ≠ 52 := fun k hk => by
    obtain ⟨cur, fz, e⟩ := own_type (hP.below hW).row hk
    exact ⟨cur, _, fz, e, by decide⟩
  have hr : ∀ s l, RdV w2 s l → RdV (w6.setCell ⟨b, 0, none⟩ (.slice (some ⟨g6, 0, none⟩) (P.length + 1) cap6)) s l := fun s l h =>
    RdG.kept (RdG.kept (h.below hW) hg hgT) (grown_set w6 b 0 _) (fun k hk => by cases hk; exact ⟨_, _, _, hb6, by decide⟩)
  refine ⟨hb6, ⟨?_, ⟨?_, fun x hx => ?_⟩, ?_, ?_, n1, n2, n3, hr _ _ hy⟩⟩
  · simp [World.setCell, Array.getElem?_modify, hb6]
  · rw [pouts_snoc, List.length_append]
    exact hown.kept (grown_set w6 b 0 _) (.inr (fun e => n2 (by cases e; rfl)))
  · rcases List.mem_append.1 hx with q | q
    · exact hr _ _ (hP.rd x q)
    · rw [List.mem_singleton.1 q]; exact hr _ _ hy
  · unfold Blk
    rw [set_far _ _ _ _ _ (Ne.symm hbo)]
    exact hx6
  · have h2 : Below B w W := hbel.trans (hW.mono hBw)
    exact (h2.grown hg (Nat.le_trans hBw hW.size) (fun k hk => (hP.row.lt k hk).1)).setCell (p := ⟨b, 0, none⟩) hBb _
theorem JW.set5 {w wy : World} {b B bo g6 cap6 : Nat} {P : List POut} {cs : Array Value} {z : POut} (h : JW w wy b B bo g6 cap6 P cs z) (j : Nat) (hj : j < P.length) (y : POut) (hy : RdV wy y.2 y.1.2.1) :
    JW w (((((wy.setCell ⟨g6, j * 5, none⟩ (.int .i64 y.1.1.1)).setCell ⟨g6, j * 5 + 1, none⟩ (.int .i64 y.1.1.2.1)).setCell ⟨g6, j * 5 + 2, none⟩ (.int .i64 y.1.1.2.2)).setCell ⟨g6, j * 5 + 3, none⟩ y.2).setCell ⟨g6, j * 5 + 4, none⟩ (.int .i64 y.1.2.2)) b B bo g6 cap6 (P.set j y) cs z := by
  have ht := own_type h.own.row (k := g6) rfl
  refine ⟨?_, ?_, ?_, ?_, h.n1, h.n2, h.n3, ((((h.ry.set_out ht).set_out (out_set ht)).set_out (out_set (out_set ht))).set_out (out_set (out_set (out_set ht)))).set_out (out_set (out_set (out_set (out_set ht))))⟩
  · rw [set_far _ _ _ _ b (Ne.symm h.n2), set_far _ _ _ _ b (Ne.symm h.n2), set_far _ _ _ _ b (Ne.symm h.n2), set_far _ _ _ _ b (Ne.symm h.n2), set_far _ _ _ _ b (Ne.symm h.n2), List.length_set]
    exact h.hb
  · have := h.own.set5 rfl j hj y hy
    rw [List.length_set]; exact this
  · unfold Blk
    rw [set_far _ _ _ _ _ (Ne.symm h.n1), set_far _ _ _ _ _ (Ne.symm h.n1), set_far _ _ _ _ _ (Ne.symm h.n1), set_far _ _ _ _ _ (Ne.symm h.n1), set_far _ _ _ _ _ (Ne.symm h.n1)]
    exact h.box
  · exact ((((h.bel.setCell (p := ⟨g6, j * 5, none⟩) h.n3 _).setCell (p := ⟨g6, j * 5 + 1, none⟩) h.n3 _).setCell (p := ⟨g6, j * 5 + 2, none⟩) h.n3 _).setCell (p := ⟨g6, j * 5 + 3, none⟩) h.n3 _).setCell (p := ⟨g6, j * 5 + 4, none⟩) h.n3 _
theorem JW.drew {w wy : World} {b B bo g6 cap6 : Nat} {P : List POut} {cs : Array Value} {z : POut} (h : JW w wy b B bo g6 cap6 P cs z) : JW w wy.drew b B bo g6 cap6 P cs z := ⟨h.hb, ⟨h.own.row, h.own.rd⟩, h.box, below_dB h.bel, h.n1, h.n2, h.n3, h.ry⟩
theorem map_take_drop (P : List POut) (k : Nat) (y : POut) : (P.take k ++ y :: P.drop k).map (·.1) = (P.map (·.1)).take k ++ y.1 :: (P.map (·.1)).drop k := by
  rw [List.map_append, List.map_cons, List.map_take, List.map_drop]
/-- the sums with an out row more -/
def AddPost (w : World) (b B : Nat) (P : List POut) (o : Pv.Key) (n : Int) (e : Ending) (w' : World) : Prop :=
  e = .returned (.tuple #[]) ∧ Below B w w' ∧ ∃ v' P', w'.heap[b]? = some (.cells #[v'] 118 (0, 0)) ∧ OwnP w' B v' P' ∧ P'.map (·.1) = Pv.addO o n (P.map (·.1))
set_option maxRecDepth 100000 in
set_option maxHeartbeats 8000000 in
theorem oadd_any {w : World} {b B : Nat} {v so : Value} {P : List POut} {o : Pv.Out} (hb : w.heap[b]? = some (.cells #[v] 118 (0, 0))) (hP : OwnP w B v P) (hBb : B ≤ b) (hBw : B ≤ w.heap.size) (hs : RdV w so o.2.1) (hd : ∀ x ∈ P, x.1.2.1.length = o.2.1.length) (hdl : o.2.1.length ≤ 1000) (hl : P.length ≤ 1000000) (hbd : ∀ x ∈ P, -1000000000 ≤ x.1.2.2 ∧ x.1.2.2 ≤ 1000000000) (n : Int) (hn1 : -1000000000 ≤ n) (hn2 : n ≤ 1000000000) :
    Calls Tryz.prog 81 #[.pointer (some ⟨b, 0, none⟩), .agg #[.int .i64 o.1.1, .int .i64 o.1.2.1, .int .i64 o.1.2.2, so, .int .i64 o.2.2], .int .i64 n] w fun e w' => AddPost w b B P (o.1, o.2.1) n e w' := by
  obtain ⟨i0, hi, hz0, hz1, hz2⟩ := info_parts infoOut
  have HB := hide hb
  have HP := hide hP
  have HS := hide hs
  have HD := hide hd
  have HBD := hide hbd
  obtain ⟨xo, co, rfl⟩ := RdG.sl hs
  obtain ⟨xv, cv, rfl⟩ := hP.form
  have hbl : b < w.heap.size := (Array.getElem?_eq_some_iff.1 hb).1
  have HNE : Hid (∀ k, (Value.slice xv P.length cv).ownBlock = some k → k ≠ b ∧ k < w.heap.size) := fun k hk => by
    refine ⟨?_, (hP.row.lt k hk).2⟩
    intro e
    subst e
    obtain ⟨cur', fz, h⟩ := own_type hP.row hk
    rw [hb] at h; cases h
  clear hb hP hs hd hbd
  go_enter Tryz.func81, Tryz.ntmps81
  go_upto_region 1 with fail
  have C0 := hide (K1.start w #[.int .i64 o.1.1, .int .i64 o.1.2.1, .int .i64 o.1.2.2, .slice xo o.2.1.length co, .int .i64 o.2.2] 55)
  generalize w.alloc (.cells #[.int .i64 o.1.1, .int .i64 o.1.2.1, .int .i64 o.1.2.2, .slice xo o.2.1.length co, .int .i64 o.2.2] 55) = w0 at *
  have hs0 := C0.out.size
  have HX : ∀ wx, Hid (Below w0.heap.size w0 wx → K1 w wx #[.int .i64 o.1.1, .int .i64 o.1.2.1, .int .i64 o.1.2.2, .slice xo o.2.1.length co, .int .i64 o.2.2] 55 ∧ wx.heap[b]? = some (.cells #[.slice xv P.length cv] 118 (0, 0)) ∧ OwnP wx B (.slice xv P.length cv) P ∧ RdV wx (.slice xo o.2.1.length co) o.2.1 ∧ wx.cell? ⟨b, 0, none⟩ = some (.slice xv P.length cv) ∧ wx.cell? ⟨w.heap.size, 0, none⟩ = some (.int .i64 o.1.1) ∧ wx.cell? ⟨w.heap.size, 1, none⟩ = some (.int .i64 o.1.2.1) ∧ wx.cell? ⟨w.heap.size, 2, none⟩ = some (.int .i64 o.1.2.2) ∧ wx.cell? ⟨w.heap.size, 3, none⟩ = some (.slice xo o.2.1.length co) ∧ wx.cell? ⟨w.heap.size, 4, none⟩ = some (.int .i64 o.2.2)) := fun wx hb => by
    have C1 := C0.out.below hb
    have hb1 := (C1.bl.block b hbl).trans HB.out
    exact ⟨C1, hb1, HP.out.below C1.bl, HS.out.below C1.bl, cell_of_heap hb1 0, cell_of_heap C1.a 0, cell_of_heap C1.a 1, cell_of_heap C1.a 2, cell_of_heap C1.a 3, cell_of_heap C1.a 4⟩
  go_wp2
  go_loopw [6] (fun i wr => ∃ k : Nat, k ≤ P.length ∧ i = .int .i64 k ∧ Below w0.heap.size w0 wr ∧ Hid (∀ j (hj : j < P.length), j < k → Pv.lowO P[j].1 (o.1, o.2.1, 0) = true)) (fun i _ => P.length - (intOf i).toNat)
  case atStart => exact ⟨0, by omega, rfl, Below.refl _ _, fun j hj h => by omega⟩
  case round =>
    obtain ⟨k, hk, rfl, hb, HN⟩ := hrel
    have B1 := hide hb
    clear hb
    obtain ⟨C1, hb1, o1, s1, q0, r0, r1, r2, r3, r4⟩ := (HX _).out B1.out
    have O1 := hide o1
    have S1 := hide s1
    clear hb1 o1 C1 s1
    by_cases hlt : k < P.length
    · have hlt' : (k : Int) < (P.length : Int) := by omega
      obtain ⟨g, c, e⟩ := O1.out.form1 (by omega)
      cases e
      obtain ⟨c0, c1, c2, c3, c4⟩ := O1.out.cell k hlt
      have HLE := hide (HD.out _ (List.getElem_mem hlt))
      have RX := hide (O1.out.rd _ (List.getElem_mem hlt))
      obtain ⟨xe, ce, he⟩ := RdG.sl RX.out
      have HE := hide he
      rw [he] at c3 RX
      clear he
      have HCI := hide (Pv.cmpF_is P[k].1 o HLE.out)
      have HLO : Hid (Pv.lowO P[k].1 o = Pv.lowO P[k].1 (o.1, o.2.1, 0)) := Pv.lowO_key rfl rfl
      have HCC : ∀ W, Hid (Below w0.heap.size w0 W → Calls Tryz.prog 103 #[.agg #[.int .i64 P[k].1.1.1, .int .i64 P[k].1.1.2.1, .int .i64 P[k].1.1.2.2, .slice xe P[k].1.2.1.length ce, .int .i64 P[k].1.2.2], .agg #[.int .i64 o.1.1, .int .i64 o.1.2.1, .int .i64 o.1.2.2, .slice xo o.2.1.length co, .int .i64 o.2.2]] W fun e w' => e = .returned (.int .i64 (Pv.cmpF P[k].1 o)) ∧ Below W.heap.size W w') := fun W hW => by
        obtain ⟨_, _, ow, sw, _⟩ := (HX _).out hW
        have hrx := ow.rd _ (List.getElem_mem hlt)
        rw [HE.out] at hrx
        exact compare_any P[k].1 o hrx sw HLE.out (by rw [HLE.out]; exact hdl)
      have hcb := Pv.cmpF_bd P[k].1 o
      go_upto_region 2 with fail
      go_still_tail 16, (by kernel_rfl)
      go_wp2_with fail
      refine ((HCC _).out (below_dB B1.out)).mono ?_
      rintro e w3 ⟨rfl, e3⟩
      replace e3 := undrew e3
      have B3 := hide (B1.out.trans (e3.mono B1.out.size))
      clear q0 r0 r1 r2 r3 r4 c0 c1 c2 c3 c4 e3 O1 S1 RX
      by_cases hlo : Pv.lowO P[k].1 o = true
      · have HLW : Hid (Pv.lowO P[k].1 (o.1, o.2.1, 0) = true) := HLO.out.symm.trans hlo
        rw [if_pos hlo] at HCI
        rw [HCI.out]
        clear hlo hcb
        go_wp2
        go_roundw
        case rel =>
          refine ⟨k + 1, by omega, by go_num, B3.out, fun j hj h => ?_⟩
          rcases Nat.lt_or_ge j k with h1 | h1
          · exact HN.out j hj h1
          · obtain rfl : j = k := by omega
            exact HLW.out
        case measure => simp [intOf]; omega
      · have hlf : Pv.lowO P[k].1 (o.1, o.2.1, 0) = false := by rw [← HLO.out]; simpa using hlo
        have hkm : k < (P.map (·.1)).length := by simpa using hlt
        have HPL : Hid (Pv.plO (o.1, o.2.1) (P.map (·.1)) = k) := Pv.plO_is (o.1, o.2.1) _ k (by simpa using hk) (fun j hj h => by simp only [List.getElem_map]; exact HN.out j (by simpa using hj) h) (fun h => by simp only [List.getElem_map]; exact hlf)
        rw [if_neg hlo] at HCI
        clear hlo hlf
        have hc0 : ¬ Pv.cmpF P[k].1 o < 0 := by
          rw [HCI.out]; split <;> omega
        go_upto_region 4 with fail
        obtain ⟨C1, hb1, o1, s1, q0, r0, r1, r2, r3, r4⟩ := (HX _).out B3.out
        have O1 := hide o1
        clear hb1 o1 C1 s1
        obtain ⟨c0, c1, c2, c3, c4⟩ := O1.out.cell k hlt
        rw [HE.out] at c3
        go_still_tail 16, (by kernel_rfl)
        go_wp2_with fail
        refine ((HCC _).out (below_dB B3.out)).mono ?_
        rintro e w4 ⟨rfl, e4⟩
        replace e4 := undrew e4
        have B4 := hide (B3.out.trans (e4.mono B3.out.size))
        clear q0 r0 r1 r2 r3 r4 c0 c1 c2 c3 c4 e4 O1 hcb hc0
        by_cases hke : Pv.keyO P[k].1 = Pv.keyO o
        · rw [if_pos hke] at HCI
          rw [HCI.out]
          have HAD : Hid (Pv.addO (o.1, o.2.1) n (P.map (·.1)) = (P.set k ((P[k].1.1, P[k].1.2.1, P[k].1.2.2 + n), P[k].2)).map (·.1)) := by
            show _ = _
            have hpl : Pv.plO (o.1, o.2.1) (P.map (·.1)) < (P.map (·.1)).length := by rw [HPL.out]; exact hkm
            have hkk : Pv.keyO (P.map (·.1))[Pv.plO (o.1, o.2.1) (P.map (·.1))] = (o.1, o.2.1) := by
              simp only [HPL.out, List.getElem_map]; exact hke
            rw [Pv.addO_same hpl hkk]
            simp only [HPL.out, List.getElem_map, List.map_set]
          clear hke
          obtain ⟨C1, hb1, o1, s1, q0, r0, r1, r2, r3, r4⟩ := (HX _).out B4.out
          have O1 := hide o1
          have HB1 := hide hb1
          have C1' := hide C1
          clear hb1 o1 C1 s1 r0 r1 r2 r3 r4
          obtain ⟨c0, c1, c2, c3, c4⟩ := O1.out.cell k hlt
          have f4 := own_freeG O1.out.row (k * 5 + 4)
          obtain ⟨n1, n2⟩ := HBD.out _ (List.getElem_mem hlt)
          have hgne : g ≠ b := (HNE.out g rfl).1
          have hgl := (O1.out.row.lt g rfl).1
          go_wp2
          go_end0
          refine ⟨rfl, ((C1'.out.bl.mono hBw).setCell (p := ⟨g, k * 5 + 4, none⟩) hgl _), _, _, ?_, O1.out.set4 rfl k hlt _, HAD.out.symm⟩
          rw [set_far _ _ _ _ b (Ne.symm hgne)]; exact HB1.out
        · rw [if_neg hke] at HCI
          rw [HCI.out]
          have HAD : Hid (∀ y : POut, y.1 = (o.1, o.2.1, n) → Pv.addO (o.1, o.2.1) n (P.map (·.1)) = (P.take k ++ y :: P.drop k).map (·.1)) := fun y hy => by
            rw [map_take_drop, hy, Pv.addO_new (o := (o.1, o.2.1)) (fun hl => by simp only [HPL.out, List.getElem_map]; exact hke), HPL.out]
          clear hke
          obtain ⟨C1, hb1, o1, s1, q0, r0, r1, r2, r3, r4⟩ := (HX _).out B4.out
          have O1 := hide o1
          have HB1 := hide hb1
          have C1' := hide C1
          have S1 := hide s1
          clear hb1 o1 C1 s1
          go_upto_region 6 with fail
          go_wp2_with fail
          refine (withNumber_any o S1.out hdl n).mono ?_
          rintro e w5 ⟨e5, xn, nn, cn, rfl, own5⟩
          have B5 := hide (B4.out.trans (e5.mono B4.out.size))
          have RN := hide (RdV.ofOwn own5)
          clear q0 r0 r1 r2 r3 r4 e5 own5 O1 HB1 C1' S1
          go_upto_region 7 with fail
          have D5 := hide (heap_alloc_new w5 (.cells #[.int .i64 o.1.1, .int .i64 o.1.2.1, .int .i64 o.1.2.2, .slice xn nn cn, .int .i64 n] 55))
          have B6 := hide (B5.out.alloc B5.out.size (.cells #[.int .i64 o.1.1, .int .i64 o.1.2.1, .int .i64 o.1.2.2, .slice xn nn cn, .int .i64 n] 55))
          have RN6 := hide (RN.out.below ((Below.refl w5.heap.size w5).alloc (Nat.le_refl _) (.cells #[.int .i64 o.1.1, .int .i64 o.1.2.1, .int .i64 o.1.2.2, .slice xn nn cn, .int .i64 n] 55)))
          have hbo : b ≠ w5.heap.size := by have := B5.out.size; omega
          have hbo2 : w.heap.size < w5.heap.size := by have := B5.out.size; omega
          generalize w5.alloc (.cells #[.int .i64 o.1.1, .int .i64 o.1.2.1, .int .i64 o.1.2.2, .slice xn nn cn, .int .i64 n] 55) = w6 at *
          clear RN
          generalize w5.heap.size = bo at *
          obtain ⟨C1, hb1, o1, s1, q0, r0, r1, r2, r3, r4⟩ := (HX _).out B6.out
          have O6 := hide o1
          have HB6 := hide hb1
          have BW6 := hide C1.bl
          clear hb1 o1 C1 s1 r0 r1 r2 r3 r4
          have z0 : w6.cell? ⟨bo, 0, none⟩ = some (.int .i64 o.1.1) := cell_of_heap D5.out 0
          have z1 : w6.cell? ⟨bo, 1, none⟩ = some (.int .i64 o.1.2.1) := cell_of_heap D5.out 1
          have z2 : w6.cell? ⟨bo, 2, none⟩ = some (.int .i64 o.1.2.2) := cell_of_heap D5.out 2
          have z3 : w6.cell? ⟨bo, 3, none⟩ = some (.slice xn nn cn) := cell_of_heap D5.out 3
          have z4 : w6.cell? ⟨bo, 4, none⟩ = some (.int .i64 n) := cell_of_heap D5.out 4
          have hsz6 := BW6.out.size
          have qa : (w6.alloc (.cells #[.int .i64 o.1.1, .int .i64 o.1.2.1, .int .i64 o.1.2.2, .slice xn nn cn, .int .i64 n] 55)).cell? ⟨b, 0, none⟩ = some (.slice (some ⟨g, 0, none⟩) P.length cv) := by
            rw [((Below.refl w6.heap.size w6).alloc (Nat.le_refl _) _).cell (p := ⟨b, 0, none⟩) (by show b < w6.heap.size; omega)]
            exact q0
          have HNB : Hid (∀ z, (Value.slice (some ⟨g, 0, none⟩) P.length cv).ownBlock = some z → z ≠ b ∧ z ≠ bo) := fun z hz => ⟨(HNE.out z hz).1, by have := (HNE.out z hz).2; omega⟩
          have hB6 : B ≤ w6.heap.size := by omega
          go_cut [73] from 64 to 105 (fun q73 wy => ∃ g6 cap6, JW w wy b B bo g6 cap6 (P ++ [((o.1, o.2.1, n), .slice xn nn cn)]) #[.int .i64 o.1.1, .int .i64 o.1.2.1, .int .i64 o.1.2.2, .slice xn nn cn, .int .i64 n] ((o.1, o.2.1, n), .slice xn nn cn))
          case first =>
            go_region_law (refine step_append_lies _ rfl (.tmp 68) (.tmp 70) 42 rfl B 55 i0 _ 5 56 Tryz.underlying42 hi hz0 hz1 hz2 rfl (by decide) _ P.length (pouts P) rfl (O6.out.row.alloc _).drew _ 1 1 (oc (o.1, o.2.1, n) (.slice xn nn cn)) rfl rfl (World.news_of_block (heap_alloc_new _ _)) (oc_one _ _ _ _) (by decide) (by unfold maxLen; omega) (by omega) (by simp; omega) _ rfl ?_; intro g6 cap6 w8 hown8 hgrow8 hat8 hlt8; obtain ⟨hb8, PW8⟩ := JW.push (y := ((o.1, o.2.1, n), .slice xn nn cn)) hBb hbo D5.out HB6.out O6.out RN6.out (BW6.out.mono hBw) hB6 HNB.out (below_dB ((Below.refl _ _).alloc (Nat.le_refl _) _)) hgrow8 hat8 (by simp) hown8; have y0 : w8.cell? ⟨b, 0, none⟩ = some (.slice (some ⟨g, 0, none⟩) P.length cv) := cell_of_heap hb8 0; have yf := free_of_heap hb8 0; have HPW := hide PW8; clear hb8 PW8 hown8 hgrow8 hat8 hlt8)
            all_goals
              go_wp2
              go_meet
              case rel => exact ⟨_, _, HPW.out⟩
          case rest =>
            obtain ⟨g6, cap6, hpw⟩ := hcut
            have P6 := hide hpw
            clear hpw z0 z1 z2 z3 z4 q0 qa O6 HB6 BW6 RN6 D5
            generalize hy : (((o.1, o.2.1, n), .slice xn nn cn) : POut) = y at *
            have HY1 : Hid (y.1 = (o.1, o.2.1, n)) := by show _ = _; rw [← hy]
            have HLN : Hid ((P ++ [y]).length = P.length + 1) := by show _ = _; simp
            have q0 : wc.cell? ⟨b, 0, none⟩ = some (.slice (some ⟨g6, 0, none⟩) (P.length + 1) cap6) := by
              have := cell_of_heap P6.out.hb 0
              rw [HLN.out] at this
              exact this
            have HBOX : Hid (#[.int .i64 o.1.1, .int .i64 o.1.2.1, .int .i64 o.1.2.2, .slice xn nn cn, .int .i64 n] = #[.int .i64 y.1.1.1, .int .i64 y.1.1.2.1, .int .i64 y.1.1.2.2, y.2, .int .i64 y.1.2.2]) := by show _ = _; rw [← hy]
            have HYS : Hid (∃ x n c, y.2 = .slice x n c) := by show ∃ _ _ _, _; rw [← hy]; exact ⟨_, _, _, rfl⟩
            clear hy
            have hwr : IntKind.i64.wrap (P.length : Int) = (P.length : Int) := wrap_id2 (by omega) (by omega)
            go_wp2
            go_loopw [8] (fun i8 wy => ∃ i : Nat, k ≤ i ∧ i ≤ P.length ∧ i8 = .int .i64 i ∧ JW w wy b B bo g6 cap6 (shiftG P y i) #[.int .i64 o.1.1, .int .i64 o.1.2.1, .int .i64 o.1.2.2, .slice xn nn cn, .int .i64 n] y) (fun i8 _ => (intOf i8).toNat)
            case atStart => exact ⟨P.length, by omega, Nat.le_refl _, rfl, by rw [shiftG_top]; exact P6.out⟩
            case round =>
              obtain ⟨i, hi1, hi2, rfl, hpw⟩ := hrel
              have P7 := hide hpw
              clear hpw
              have HLS := hide (shiftG_len P y i hi2)
              clear q0
              have q0 : wr.cell? ⟨b, 0, none⟩ = some (.slice (some ⟨g6, 0, none⟩) (P.length + 1) cap6) := by
                have := cell_of_heap P7.out.hb 0
                rw [HLS.out] at this
                exact this
              by_cases hik : k < i
              · obtain ⟨j, rfl⟩ : ∃ j, i = j + 1 := ⟨i - 1, by omega⟩
                have hjl : j < P.length := by omega
                have hik' : (k : Int) < (j : Int) + 1 := by omega
                have hj1 : j < (shiftG P y (j + 1)).length := by rw [HLS.out]; omega
                have hj2 : j + 1 < (shiftG P y (j + 1)).length := by rw [HLS.out]; omega
                have eg : (shiftG P y (j + 1))[j] = P[j] := by
                  have := shiftG_get P y j hjl
                  rw [List.getElem?_eq_getElem hj1] at this
                  exact Option.some.inj this
                obtain ⟨a0, a1, a2, a3, a4⟩ := P7.out.own.cell j hj1
                have hrj := P7.out.own.rd _ (List.getElem_mem hj1)
                rw [eg] at a0 a1 a2 a3 a4 hrj
                obtain ⟨d0, d1, d2, d3, d4⟩ := P7.out.own.cell (j + 1) hj2
                obtain ⟨xe, ce, he⟩ := RdG.sl hrj
                obtain ⟨xf, cf, hf⟩ := RdG.sl (P7.out.own.rd _ (List.getElem_mem hj2))
                rw [hf] at d3
                have f0 := own_freeG P7.out.own.row ((j + 1) * 5)
                have f1 := own_freeG P7.out.own.row ((j + 1) * 5 + 1)
                have f2 := own_freeG P7.out.own.row ((j + 1) * 5 + 2)
                have f3 := own_freeG P7.out.own.row ((j + 1) * 5 + 3)
                have f4 := own_freeG P7.out.own.row ((j + 1) * 5 + 4)
                have HST := hide (shiftG_step P y j hjl)
                have HP8 := hide (P7.out.set5 (j + 1) hj2 P[j] hrj)
                rw [HST.out] at HP8
                rw [he] at a3 HP8
                clear hrj he hf
                have hwj : IntKind.i64.wrap (j : Int) = (j : Int) := wrap_id2 (by omega) (by omega)
                have b1 : j < P.length + 1 := by omega
                have b2 : j + 1 < P.length + 1 := by omega
                have b3 : (j : Int) < (P.length : Int) + 1 := by omega
                have b4 : (j : Int) + 1 < (P.length : Int) + 1 := by omega
                have b5 : (0 : Int) ≤ (j : Int) + 1 := by omega
                clear eg
                go_upto_region 11 with fail
                go_still_tail 14, (by kernel_rfl)
                go_wp2
                go_roundw
                case rel => exact ⟨j, by omega, by omega, by first | go_num | rfl, HP8.out.drew⟩
                case measure => simp [intOf]
              · obtain rfl : i = k := by omega
                have hik' : ¬ (i : Int) < (i : Int) := by omega
                have hj2 : i < (shiftG P y i).length := by rw [HLS.out]; omega
                obtain ⟨d0, d1, d2, d3, d4⟩ := P7.out.own.cell i hj2
                obtain ⟨xf, cf, hf⟩ := RdG.sl (P7.out.own.rd _ (List.getElem_mem hj2))
                rw [hf] at d3
                clear hf
                have f0 := own_freeG P7.out.own.row (i * 5)
                have f1 := own_freeG P7.out.own.row (i * 5 + 1)
                have f2 := own_freeG P7.out.own.row (i * 5 + 2)
                have f3 := own_freeG P7.out.own.row (i * 5 + 3)
                have f4 := own_freeG P7.out.own.row (i * 5 + 4)
                have hbx := P7.out.box
                rw [HBOX.out] at hbx
                have r0 : wr.cell? ⟨bo, 0, none⟩ = some (.int .i64 y.1.1.1) := hbx.cell 0
                have r1 : wr.cell? ⟨bo, 1, none⟩ = some (.int .i64 y.1.1.2.1) := hbx.cell 1
                have r2 : wr.cell? ⟨bo, 2, none⟩ = some (.int .i64 y.1.1.2.2) := hbx.cell 2
                have r3 : wr.cell? ⟨bo, 3, none⟩ = some y.2 := hbx.cell 3
                have r4 : wr.cell? ⟨bo, 4, none⟩ = some (.int .i64 y.1.2.2) := hbx.cell 4
                have hry : RdV wr y.2 y.1.2.1 := P7.out.ry
                have HP8 := hide (P7.out.set5 i hj2 y hry)
                rw [shiftG_end P y i hi2] at HP8
                have HLZ : Hid ((P.take i ++ y :: P.drop i).length = P.length + 1) := by show _ = _; simp; omega
                obtain ⟨xy, ny, cy, hys⟩ := HYS.out
                rw [hys] at r3 HP8
                clear hbx hry hys
                have b1 : i < P.length + 1 := by omega
                have b3 : (i : Int) < (P.length : Int) + 1 := by omega
                go_upto_region 12 with fail
                go_still_tail 7, (by kernel_rfl)
                go_wp2
                go_end0
                have h8 := HP8.out.drew
                exact ⟨rfl, h8.bel, _, _, h8.hb, h8.own, (HAD.out y HY1.out).symm⟩
    · have hlt' : ¬ (k : Int) < (P.length : Int) := by omega
      have hkp : k = P.length := by omega
      have HPL : Hid (Pv.plO (o.1, o.2.1) (P.map (·.1)) = k) := Pv.plO_is (o.1, o.2.1) _ k (by simpa using hk) (fun j hj h => by simp only [List.getElem_map]; exact HN.out j (by simpa using hj) h) (fun h => by rw [List.length_map] at h; omega)
      have HAD : Hid (∀ y : POut, y.1 = (o.1, o.2.1, n) → Pv.addO (o.1, o.2.1) n (P.map (·.1)) = (P.take k ++ y :: P.drop k).map (·.1)) := fun y hy => by
        rw [map_take_drop, hy, Pv.addO_new (o := (o.1, o.2.1)) (fun hl => by rw [HPL.out, List.length_map] at hl; omega), HPL.out]
      clear hkp
      go_wp2
      go_quiet (fail)
      have B3 : Hid (Below w0.heap.size w0 (wr.drewN nq)) := below_drewM B1.out nq
      clear q0 r0 r1 r2 r3 r4 O1 S1 B1
      generalize wr.drewN nq = w3 at *
      obtain ⟨C1, hb1, o1, s1, q0, r0, r1, r2, r3, r4⟩ := (HX _).out B3.out
      clear hb1 o1 C1 s1 r0 r1 r2 r3 r4
      go_wp2
      go_quiet (fail)
      have B4 : Hid (Below w0.heap.size w0 (w3.drewN nq)) := below_drewM B3.out nq
      clear q0 B3
      generalize w3.drewN nq = w4 at *
      obtain ⟨C1, hb1, o1, s1, q0, r0, r1, r2, r3, r4⟩ := (HX _).out B4.out
      have O1 := hide o1
      have HB1 := hide hb1
      have C1' := hide C1
      have S1 := hide s1
      clear hb1 o1 C1 s1
      go_upto_region 6 with fail
      go_wp2_with fail
      refine (withNumber_any o S1.out hdl n).mono ?_
      rintro e w5 ⟨e5, xn, nn, cn, rfl, own5⟩
      have B5 := hide (B4.out.trans (e5.mono B4.out.size))
      have RN := hide (RdV.ofOwn own5)
      clear q0 r0 r1 r2 r3 r4 e5 own5 O1 HB1 C1' S1
      go_upto_region 7 with fail
      have D5 := hide (heap_alloc_new w5 (.cells #[.int .i64 o.1.1, .int .i64 o.1.2.1, .int .i64 o.1.2.2, .slice xn nn cn, .int .i64 n] 55))
      have B6 := hide (B5.out.alloc B5.out.size (.cells #[.int .i64 o.1.1, .int .i64 o.1.2.1, .int .i64 o.1.2.2, .slice xn nn cn, .int .i64 n] 55))
      have RN6 := hide (RN.out.below ((Below.refl w5.heap.size w5).alloc (Nat.le_refl _) (.cells #[.int .i64 o.1.1, .int .i64 o.1.2.1, .int .i64 o.1.2.2, .slice xn nn cn, .int .i64 n] 55)))
      have hbo : b ≠ w5.heap.size := by have := B5.out.size; omega
      have hbo2 : w.heap.size < w5.heap.size := by have := B5.out.size; omega
      generalize w5.alloc (.cells #[.int .i64 o.1.1, .int .i64 o.1.2.1, .int .i64 o.1.2.2, .slice xn nn cn, .int .i64 n] 55) = w6 at *
      clear RN
      generalize w5.heap.size = bo at *
      obtain ⟨C1, hb1, o1, s1, q0, r0, r1, r2, r3, r4⟩ := (HX _).out B6.out
      have O6 := hide o1
      have HB6 := hide hb1
      have BW6 := hide C1.bl
      clear hb1 o1 C1 s1 r0 r1 r2 r3 r4
      have z0 : w6.cell? ⟨bo, 0, none⟩ = some (.int .i64 o.1.1) := cell_of_heap D5.out 0
      have z1 : w6.cell? ⟨bo, 1, none⟩ = some (.int .i64 o.1.2.1) := cell_of_heap D5.out 1
      have z2 : w6.cell? ⟨bo, 2, none⟩ = some (.int .i64 o.1.2.2) := cell_of_heap D5.out 2
      have z3 : w6.cell? ⟨bo, 3, none⟩ = some (.slice xn nn cn) := cell_of_heap D5.out 3
      have z4 : w6.cell? ⟨bo, 4, none⟩ = some (.int .i64 n) := cell_of_heap D5.out 4
      have hsz6 := BW6.out.size
      have qa : (w6.alloc (.cells #[.int .i64 o.1.1, .int .i64 o.1.2.1, .int .i64 o.1.2.2, .slice xn nn cn, .int .i64 n] 55)).cell? ⟨b, 0, none⟩ = some (.slice xv P.length cv) := by
        rw [((Below.refl w6.heap.size w6).alloc (Nat.le_refl _) _).cell (p := ⟨b, 0, none⟩) (by show b < w6.heap.size; omega)]
        exact q0
      have HNB : Hid (∀ z, (Value.slice xv P.length cv).ownBlock = some z → z ≠ b ∧ z ≠ bo) := fun z hz => ⟨(HNE.out z hz).1, by have := (HNE.out z hz).2; omega⟩
      have hB6 : B ≤ w6.heap.size := by omega
      go_cut [73] from 64 to 105 (fun q73 wy => ∃ g6 cap6, JW w wy b B bo g6 cap6 (P ++ [((o.1, o.2.1, n), .slice xn nn cn)]) #[.int .i64 o.1.1, .int .i64 o.1.2.1, .int .i64 o.1.2.2, .slice xn nn cn, .int .i64 n] ((o.1, o.2.1, n), .slice xn nn cn))
      case first =>
        go_region_law (refine step_append_lies _ rfl (.tmp 68) (.tmp 70) 42 rfl B 55 i0 _ 5 56 Tryz.underlying42 hi hz0 hz1 hz2 rfl (by decide) _ P.length (pouts P) rfl (O6.out.row.alloc _).drew _ 1 1 (oc (o.1, o.2.1, n) (.slice xn nn cn)) rfl rfl (World.news_of_block (heap_alloc_new _ _)) (oc_one _ _ _ _) (by decide) (by unfold maxLen; omega) (by omega) (by simp; omega) _ rfl ?_; intro g6 cap6 w8 hown8 hgrow8 hat8 hlt8; obtain ⟨hb8, PW8⟩ := JW.push (y := ((o.1, o.2.1, n), .slice xn nn cn)) hBb hbo D5.out HB6.out O6.out RN6.out (BW6.out.mono hBw) hB6 HNB.out (below_dB ((Below.refl _ _).alloc (Nat.le_refl _) _)) hgrow8 hat8 (by simp) hown8; have y0 : w8.cell? ⟨b, 0, none⟩ = some (.slice xv P.length cv) := cell_of_heap hb8 0; have yf := free_of_heap hb8 0; have HPW := hide PW8; clear hb8 PW8 hown8 hgrow8 hat8 hlt8)
        all_goals
          go_wp2
          go_meet
          case rel => exact ⟨_, _, HPW.out⟩
      case rest =>
        obtain ⟨g6, cap6, hpw⟩ := hcut
        have P6 := hide hpw
        clear hpw z0 z1 z2 z3 z4 q0 qa O6 HB6 BW6 RN6 D5
        generalize hy : (((o.1, o.2.1, n), .slice xn nn cn) : POut) = y at *
        have HY1 : Hid (y.1 = (o.1, o.2.1, n)) := by show _ = _; rw [← hy]
        have HLN : Hid ((P ++ [y]).length = P.length + 1) := by show _ = _; simp
        have q0 : wc.cell? ⟨b, 0, none⟩ = some (.slice (some ⟨g6, 0, none⟩) (P.length + 1) cap6) := by
          have := cell_of_heap P6.out.hb 0
          rw [HLN.out] at this
          exact this
        have HBOX : Hid (#[.int .i64 o.1.1, .int .i64 o.1.2.1, .int .i64 o.1.2.2, .slice xn nn cn, .int .i64 n] = #[.int .i64 y.1.1.1, .int .i64 y.1.1.2.1, .int .i64 y.1.1.2.2, y.2, .int .i64 y.1.2.2]) := by show _ = _; rw [← hy]
        have HYS : Hid (∃ x n c, y.2 = .slice x n c) := by show ∃ _ _ _, _; rw [← hy]; exact ⟨_, _, _, rfl⟩
        clear hy
        have hwr : IntKind.i64.wrap (P.length : Int) = (P.length : Int) := wrap_id2 (by omega) (by omega)
        go_wp2
        go_loopw [8] (fun i8 wy => ∃ i : Nat, k ≤ i ∧ i ≤ P.length ∧ i8 = .int .i64 i ∧ JW w wy b B bo g6 cap6 (shiftG P y i) #[.int .i64 o.1.1, .int .i64 o.1.2.1, .int .i64 o.1.2.2, .slice xn nn cn, .int .i64 n] y) (fun i8 _ => (intOf i8).toNat)
        case atStart => exact ⟨P.length, by omega, Nat.le_refl _, rfl, by rw [shiftG_top]; exact P6.out⟩
        case round =>
          obtain ⟨i, hi1, hi2, rfl, hpw⟩ := hrel
          have P7 := hide hpw
          clear hpw
          have HLS := hide (shiftG_len P y i hi2)
          clear q0
          have q0 : wr.cell? ⟨b, 0, none⟩ = some (.slice (some ⟨g6, 0, none⟩) (P.length + 1) cap6) := by
            have := cell_of_heap P7.out.hb 0
            rw [HLS.out] at this
            exact this
          by_cases hik : k < i
          · exfalso; omega
          · obtain rfl : i = k := by omega
            have hik' : ¬ (i : Int) < (i : Int) := by omega
            have hj2 : i < (shiftG P y i).length := by rw [HLS.out]; omega
            obtain ⟨d0, d1, d2, d3, d4⟩ := P7.out.own.cell i hj2
            obtain ⟨xf, cf, hf⟩ := RdG.sl (P7.out.own.rd _ (List.getElem_mem hj2))
            rw [hf] at d3
            clear hf
            have f0 := own_freeG P7.out.own.row (i * 5)
            have f1 := own_freeG P7.out.own.row (i * 5 + 1)
            have f2 := own_freeG P7.out.own.row (i * 5 + 2)
            have f3 := own_freeG P7.out.own.row (i * 5 + 3)
            have f4 := own_freeG P7.out.own.row (i * 5 + 4)
            have hbx := P7.out.box
            rw [HBOX.out] at hbx
            have r0 : wr.cell? ⟨bo, 0, none⟩ = some (.int .i64 y.1.1.1) := hbx.cell 0
            have r1 : wr.cell? ⟨bo, 1, none⟩ = some (.int .i64 y.1.1.2.1) := hbx.cell 1
            have r2 : wr.cell? ⟨bo, 2, none⟩ = some (.int .i64 y.1.1.2.2) := hbx.cell 2
            have r3 : wr.cell? ⟨bo, 3, none⟩ = some y.2 := hbx.cell 3
            have r4 : wr.cell? ⟨bo, 4, none⟩ = some (.int .i64 y.1.2.2) := hbx.cell 4
            have hry : RdV wr y.2 y.1.2.1 := P7.out.ry
            have HP8 := hide (P7.out.set5 i hj2 y hry)
            rw [shiftG_end P y i hi2] at HP8
            have HLZ : Hid ((P.take i ++ y :: P.drop i).length = P.length + 1) := by show _ = _; simp; omega
            obtain ⟨xy, ny, cy, hys⟩ := HYS.out
            rw [hys] at r3 HP8
            clear hbx hry hys
            have b1 : i < P.length + 1 := by omega
            have b3 : (i : Int) < (P.length : Int) + 1 := by omega
            go_upto_region 12 with fail
            go_still_tail 7, (by kernel_rfl)
            go_wp2
            go_end0
            have h8 := HP8.out.drew
            exact ⟨rfl, h8.bel, _, _, h8.hb, h8.own, (HAD.out y HY1.out).symm⟩
end Go.Proofs.YtcoofnhdbejnpaaGreatDoor

