/- Package paneskeep: total. -/
import Derived.Test.YtcoofnhdbejnpaaGreatDoorG22
namespace Go.Proofs.YtcoofnhdbejnpaaGreatDoor
open Go.RowKit
open Pk (LN Fx gAt vAt LineOk inV)
theorem inV_bd {L : LN} (h : LineOk L) (x : Fx) (i : Nat) : ∀ m, m ≤ L.length → (inV L x i m).length ≤ m ∧ -(9 * (m : Int)) ≤ (inV L x i m).sum ∧ (inV L x i m).sum ≤ 9 * (m : Int)
  | 0, _ => by simp [inV]
  | m + 1, hm => by
    have ih := inV_bd h x i m (by omega)
    have hv := (h.at (i := m) (by omega)).2
    rw [Pk.inV_succ]
    split
    · rw [List.length_append, List.sum_append]
      simp
      omega
    · rw [List.append_nil]
      omega
/-- behind one more: how the six numbers go on -/
theorem tot_step (F : List Int) (v : Int) : ((F ++ [v]).length : Int) = F.length + 1 ∧ (F ++ [v]).sum = F.sum + v := by simp
set_option maxRecDepth 100000 in
set_option maxHeartbeats 4000000 in
theorem ktotal_any {w : World} {sg sv : Value} {L : LN} (hL : LM w sg sv L) (t : ByteArray) (x : Fx) (hk : x.kind < 5) (ha : x.a < 4) (hb : x.b < 4) {i kd : Nat} (hi : i < L.length) (h3 : 3 ≤ kd) (h9 : kd < 9) (ws : ByteArray) (hws : ws = ⟨(Pq.kindTxt (kd + 3)).toArray⟩) :
    Calls Tryz.prog 43 #[lv sg sv, .string ws, fv t x, .int .i64 (i : Int)] w fun e w' => e = .returned (vv (Pk.totK kd (inV L x i L.length))) ∧ Below w.heap.size w w' := by
  obtain ⟨g, off, cap, rfl, hcap⟩ := RdG.form1 hL.rv (by omega)
  obtain ⟨av, cv, rfl⟩ := RdG.sl hL.rg
  have HLM := hide hL
  have HWS := hide hws
  clear hws
  have hl := hL.ok.len
  have HBD := hide (inV_bd hL.ok x i)
  have HSU := hide (Pk.inV_succ L x i)
  clear hL
  unfold lv fv
  go_enter Tryz.func43, Tryz.ntmps43
  go_upto_region 1 with fail
  have C0 := hide (K3.start w #[.slice av L.length cv, .slice (some ⟨g, off, none⟩) L.length cap] 27 #[.string t, .int .i64 (x.kind : Int), .int .i64 (x.a : Int), .int .i64 (x.b : Int)] 98 #[.bool false, .int .i64 0] 52)
  generalize (((w.alloc (.cells #[.slice av L.length cv, .slice (some ⟨g, off, none⟩) L.length cap] 27)).alloc (.cells #[.string t, .int .i64 (x.kind : Int), .int .i64 (x.a : Int), .int .i64 (x.b : Int)] 98)).alloc (.cells #[.bool false, .int .i64 0] 52)) = w0 at *
  have AC : ∀ wx, Hid (Below w0.heap.size w0 wx → wx.cell? ⟨w.heap.size, 0, none⟩ = some (.slice av L.length cv) ∧ wx.cell? ⟨w.heap.size, 1, none⟩ = some (.slice (some ⟨g, off, none⟩) L.length cap) ∧ wx.cell? ⟨w.heap.size + 1, 0, none⟩ = some (.string t) ∧ wx.cell? ⟨w.heap.size + 1, 1, none⟩ = some (.int .i64 (x.kind : Int)) ∧ wx.cell? ⟨w.heap.size + 1, 2, none⟩ = some (.int .i64 (x.a : Int)) ∧ wx.cell? ⟨w.heap.size + 1, 3, none⟩ = some (.int .i64 (x.b : Int))) := fun wx h =>
    ⟨cell_of_heap (C0.out.below h).a 0, cell_of_heap (C0.out.below h).a 1, cell_of_heap (C0.out.below h).b 0, cell_of_heap (C0.out.below h).b 1, cell_of_heap (C0.out.below h).b 2, cell_of_heap (C0.out.below h).b 3⟩
  have HRES : Hid (∀ W : World, Below w0.heap.size w0 W → Blk W (w.heap.size + 1 + 1) #[.bool false, .int .i64 0] 52 ∧ Below w.heap.size w W) := fun W h => ⟨(C0.out.below h).c, (C0.out.below h).bl⟩
  go_wp2
  go_loopw [9, 10, 11, 12, 13, 14, 15] (fun n s lo hi' fi la kk wr => ∃ k : Nat, k ≤ L.length ∧ kk = .int .i64 k ∧ n = .int .i64 ((inV L x i k).length : Int) ∧ s = .int .i64 (inV L x i k).sum ∧ lo = .int .i64 (Pk.leastF (inV L x i k)) ∧ hi' = .int .i64 (Pk.mostF (inV L x i k)) ∧ fi = .int .i64 (Pk.firstF (inV L x i k)) ∧ la = .int .i64 (Pk.lastF (inV L x i k)) ∧ Hid (Below w0.heap.size w0 wr)) (fun _ _ _ _ _ _ kk _ => L.length - (intOf kk).toNat)
  case atStart => exact ⟨0, by omega, rfl, rfl, rfl, rfl, rfl, rfl, rfl, Below.refl _ _⟩
  case round =>
    obtain ⟨k, hkl, rfl, rfl, rfl, rfl, rfl, rfl, rfl, B1⟩ := hrel
    obtain ⟨q0, q1, q2, q3, q4, q5⟩ := (AC _).out B1.out
    by_cases hlt : k < L.length
    · have hlt' : (k : Int) < (L.length : Int) := by omega
      go_wp2_with fail
      refine (kin_any (HLM.out.below (C0.out.below B1.out).bl) t x hk ha hb hi hlt).mono ?_
      rintro e w3 ⟨rfl, e3⟩
      have B3 := hide (B1.out.trans (e3.mono B1.out.size))
      have HS := hide (HSU.out k)
      clear q0 q1 q2 q3 q4 q5 e3 B1
      obtain ⟨q0, q1, q2, q3, q4, q5⟩ := (AC _).out B3.out
      have v1 := (HLM.out.below (C0.out.below B3.out).bl).v hlt
      have hbv := (HLM.out.ok.at hlt).2
      obtain ⟨bv1, bv2⟩ := hbv
      obtain ⟨b1, b2, b3⟩ := HBD.out k (by omega)
      generalize Pk.inK L x i k = yes at *
      generalize inV L x i k = F at *
      generalize vAt L k = v at *
      cases yes
      · have HF : Hid (inV L x i (k + 1) = F) := by show _ = _; rw [HS.out]; simp
        clear HS
        go_wp2
        go_roundw
        case rel =>
          exact ⟨k + 1, by omega, by go_num, by rw [HF.out], by rw [HF.out], by rw [HF.out], by rw [HF.out], by rw [HF.out], by rw [HF.out], B3⟩
        case measure => simp [intOf]; omega
      · have HF : Hid (inV L x i (k + 1) = F ++ [v]) := by show _ = _; rw [HS.out]; simp
        clear HS
        have hvv : ¬ v < v := by omega
        have E1 := hide (tot_step F v)
        have E2 := hide (Pk.least_snoc F v)
        have E3 := hide (Pk.most_snoc F v)
        have E4 := hide (Pk.first_snoc F v)
        have E5 := hide (Pk.last_snoc F v)
        have s1 : -1000000 ≤ F.sum := by omega
        have s2 : F.sum ≤ 1000000 := by omega
        have n1 : F.length ≤ 1000000 := by omega
        clear b1 b2 b3
        by_cases hn : F.length = 0
        · have hn0 : ((F.length : Int) == 0) = true := by simp [hn]
          rw [if_pos hn] at E2 E3 E4
          clear hn
          generalize F.sum = sm at *
          generalize Pk.leastF F = lo at *
          generalize Pk.mostF F = hi' at *
          generalize Pk.firstF F = fi at *
          generalize Pk.lastF F = la at *
          go_wp2
          go_roundw
          case rel =>
            exact ⟨k + 1, by omega, by go_num, by rw [HF.out, E1.out.1], by rw [HF.out, E1.out.2], by rw [HF.out, E2.out], by rw [HF.out, E3.out], by rw [HF.out, E4.out], by rw [HF.out, E5.out], B3⟩
          case measure => simp [intOf]; omega
        · have hn0 : ((F.length : Int) == 0) = false := by rw [beq_eq_false_iff_ne]; omega
          rw [if_neg hn] at E2 E3 E4
          clear hn
          generalize F.sum = sm at *
          generalize Pk.leastF F = lo at *
          generalize Pk.mostF F = hi' at *
          generalize Pk.firstF F = fi at *
          generalize Pk.lastF F = la at *
          by_cases hlo : v < lo
          · rw [if_pos hlo] at E2
            by_cases hhi : hi' < v
            · rw [if_pos hhi] at E3
              go_wp2
              go_roundw
              case rel =>
                exact ⟨k + 1, by omega, by go_num, by rw [HF.out, E1.out.1], by rw [HF.out, E1.out.2], by rw [HF.out, E2.out], by rw [HF.out, E3.out], by rw [HF.out, E4.out], by rw [HF.out, E5.out], B3⟩
              case measure => simp [intOf]; omega
            · rw [if_neg hhi] at E3
              go_wp2
              go_roundw
              case rel =>
                exact ⟨k + 1, by omega, by go_num, by rw [HF.out, E1.out.1], by rw [HF.out, E1.out.2], by rw [HF.out, E2.out], by rw [HF.out, E3.out], by rw [HF.out, E4.out], by rw [HF.out, E5.out], B3⟩
              case measure => simp [intOf]; omega
          · rw [if_neg hlo] at E2
            by_cases hhi : hi' < v
            · rw [if_pos hhi] at E3
              go_wp2
              go_roundw
              case rel =>
                exact ⟨k + 1, by omega, by go_num, by rw [HF.out, E1.out.1], by rw [HF.out, E1.out.2], by rw [HF.out, E2.out], by rw [HF.out, E3.out], by rw [HF.out, E4.out], by rw [HF.out, E5.out], B3⟩
              case measure => simp [intOf]; omega
            · rw [if_neg hhi] at E3
              go_wp2
              go_roundw
              case rel =>
                exact ⟨k + 1, by omega, by go_num, by rw [HF.out, E1.out.1], by rw [HF.out, E1.out.2], by rw [HF.out, E2.out], by rw [HF.out, E3.out], by rw [HF.out, E4.out], by rw [HF.out, E5.out], B3⟩
              case measure => simp [intOf]; omega
    · have hlt' : ¬ (k : Int) < (L.length : Int) := by omega
      obtain rfl : k = L.length := by omega
      have n1 : (inV L x i L.length).length ≤ 1000000 := by have := (HBD.out L.length (Nat.le_refl _)).1; omega
      generalize hFE : inV L x i L.length = F at *
      have HFE := hide hFE
      clear hFE
      obtain ⟨wd, hwd⟩ : ∃ wd, wd = Pq.kindTxt (kd + 3) := ⟨_, rfl⟩
      have hws := HWS.out
      rw [← hwd] at hws
      subst hws
      clear HWS
      have HWD := hide hwd
      clear hwd
      obtain rfl | hkd := Nat.eq_or_lt_of_le h3
      · have hc0 : (wd == [99, 111, 117, 110, 116]) = true := by rw [HWD.out]; decide
        have HT : Hid (Pk.totK 3 F = some (F.length : Int)) := by show _ = _; simp [Pk.totK]
        go_wp2_with fail
        refine (ksome_any _ _).mono ?_
        rintro e w4 ⟨rfl, e4⟩
        have B4 := hide (B1.out.trans (e4.mono B1.out.size))
        obtain ⟨r, hbl⟩ := HRES.out _ B4.out
        have r0 := r.cell 0
        have r1 := r.cell 1
        have f0 := free_of_heap r 0
        have f1 := free_of_heap r 1
        go_wp2
        obtain ⟨l0, l1⟩ := set2 r (.bool true) (.int .i64 (F.length : Int))
        refine bodyPost_ret (v := .agg #[.bool true, .int .i64 (F.length : Int)]) (by simp [results, Tryz.results43, go_sem, l0, l1]) rfl ⟨?_, (hbl.setCell (p := ⟨w.heap.size + 1 + 1, 0, none⟩) (by simp; omega) _).setCell (p := ⟨w.heap.size + 1 + 1, 1, none⟩) (by simp; omega) _⟩
        rw [HFE.out, HT.out]; rfl
      · have hc0 : (wd == [99, 111, 117, 110, 116]) = false := by
          rw [HWD.out]
          have : kd = 4 ∨ kd = 5 ∨ kd = 6 ∨ kd = 7 ∨ kd = 8 := by omega
          rcases this with rfl | rfl | rfl | rfl | rfl <;> decide
        by_cases hF0 : F.length = 0
        · have hb0 : ((F.length : Int) == 0) = true := by simp [hF0]
          have HT : Hid (Pk.totK kd F = none) := by show _ = _; unfold Pk.totK; rw [if_neg (by omega), if_pos hF0]
          clear hF0
          obtain ⟨r, hbl⟩ := HRES.out _ B1.out
          have r0 := r.cell 0
          have r1 := r.cell 1
          have f0 := free_of_heap r 0
          have f1 := free_of_heap r 1
          go_wp2
          obtain ⟨l0, l1⟩ := set2 r (.bool false) (.int .i64 0)
          refine bodyPost_ret (v := .agg #[.bool false, .int .i64 0]) (by simp [results, Tryz.results43, go_sem, l0, l1]) rfl ⟨?_, (hbl.setCell (p := ⟨w.heap.size + 1 + 1, 0, none⟩) (by simp; omega) _).setCell (p := ⟨w.heap.size + 1 + 1, 1, none⟩) (by simp; omega) _⟩
          rw [HFE.out, HT.out]; rfl
        · have hb0 : ((F.length : Int) == 0) = false := by rw [beq_eq_false_iff_ne]; omega
          have hor : kd = 4 ∨ kd = 5 ∨ kd = 6 ∨ kd = 7 ∨ kd = 8 := by omega
          rcases hor with rfl | rfl | rfl | rfl | rfl
          · have hc4 : (wd == [115, 117, 109]) = true := by rw [HWD.out]; decide
            have HT : Hid (Pk.totK 4 F = some F.sum) := by show _ = _; simp [Pk.totK, hF0]
            clear hF0
            go_wp2_with fail
            refine (ksome_any _ _).mono ?_
            rintro e w4 ⟨rfl, e4⟩
            have B4 := hide (B1.out.trans (e4.mono B1.out.size))
            obtain ⟨r, hbl⟩ := HRES.out _ B4.out
            have r0 := r.cell 0
            have r1 := r.cell 1
            have f0 := free_of_heap r 0
            have f1 := free_of_heap r 1
            go_wp2
            obtain ⟨l0, l1⟩ := set2 r (.bool true) (.int .i64 F.sum)
            refine bodyPost_ret (v := .agg #[.bool true, .int .i64 F.sum]) (by simp [results, Tryz.results43, go_sem, l0, l1]) rfl ⟨?_, (hbl.setCell (p := ⟨w.heap.size + 1 + 1, 0, none⟩) (by simp; omega) _).setCell (p := ⟨w.heap.size + 1 + 1, 1, none⟩) (by simp; omega) _⟩
            rw [HFE.out, HT.out]; rfl
          · have hc4 : (wd == [115, 117, 109]) = false := by rw [HWD.out]; decide
            have hc5 : (wd == [109, 105, 110]) = true := by rw [HWD.out]; decide
            have HT : Hid (Pk.totK 5 F = some (Pk.leastF F)) := by show _ = _; simp [Pk.totK, hF0]
            clear hF0
            go_wp2_with fail
            refine (ksome_any _ _).mono ?_
            rintro e w4 ⟨rfl, e4⟩
            have B4 := hide (B1.out.trans (e4.mono B1.out.size))
            obtain ⟨r, hbl⟩ := HRES.out _ B4.out
            have r0 := r.cell 0
            have r1 := r.cell 1
            have f0 := free_of_heap r 0
            have f1 := free_of_heap r 1
            go_wp2
            obtain ⟨l0, l1⟩ := set2 r (.bool true) (.int .i64 (Pk.leastF F))
            refine bodyPost_ret (v := .agg #[.bool true, .int .i64 (Pk.leastF F)]) (by simp [results, Tryz.results43, go_sem, l0, l1]) rfl ⟨?_, (hbl.setCell (p := ⟨w.heap.size + 1 + 1, 0, none⟩) (by simp; omega) _).setCell (p := ⟨w.heap.size + 1 + 1, 1, none⟩) (by simp; omega) _⟩
            rw [HFE.out, HT.out]; rfl
          · have hc4 : (wd == [115, 117, 109]) = false := by rw [HWD.out]; decide
            have hc5 : (wd == [109, 105, 110]) = false := by rw [HWD.out]; decide
            have hc6 : (wd == [109, 97, 120]) = true := by rw [HWD.out]; decide
            have HT : Hid (Pk.totK 6 F = some (Pk.mostF F)) := by show _ = _; simp [Pk.totK, hF0]
            clear hF0
            go_wp2_with fail
            refine (ksome_any _ _).mono ?_
            rintro e w4 ⟨rfl, e4⟩
            have B4 := hide (B1.out.trans (e4.mono B1.out.size))
            obtain ⟨r, hbl⟩ := HRES.out _ B4.out
            have r0 := r.cell 0
            have r1 := r.cell 1
            have f0 := free_of_heap r 0
            have f1 := free_of_heap r 1
            go_wp2
            obtain ⟨l0, l1⟩ := set2 r (.bool true) (.int .i64 (Pk.mostF F))
            refine bodyPost_ret (v := .agg #[.bool true, .int .i64 (Pk.mostF F)]) (by simp [results, Tryz.results43, go_sem, l0, l1]) rfl ⟨?_, (hbl.setCell (p := ⟨w.heap.size + 1 + 1, 0, none⟩) (by simp; omega) _).setCell (p := ⟨w.heap.size + 1 + 1, 1, none⟩) (by simp; omega) _⟩
            rw [HFE.out, HT.out]; rfl
          · have hc4 : (wd == [115, 117, 109]) = false := by rw [HWD.out]; decide
            have hc5 : (wd == [109, 105, 110]) = false := by rw [HWD.out]; decide
            have hc6 : (wd == [109, 97, 120]) = false := by rw [HWD.out]; decide
            have hc7 : (wd == [102, 105, 114, 115, 116]) = true := by rw [HWD.out]; decide
            have HT : Hid (Pk.totK 7 F = some (Pk.firstF F)) := by show _ = _; simp [Pk.totK, hF0]
            clear hF0
            go_wp2_with fail
            refine (ksome_any _ _).mono ?_
            rintro e w4 ⟨rfl, e4⟩
            have B4 := hide (B1.out.trans (e4.mono B1.out.size))
            obtain ⟨r, hbl⟩ := HRES.out _ B4.out
            have r0 := r.cell 0
            have r1 := r.cell 1
            have f0 := free_of_heap r 0
            have f1 := free_of_heap r 1
            go_wp2
            obtain ⟨l0, l1⟩ := set2 r (.bool true) (.int .i64 (Pk.firstF F))
            refine bodyPost_ret (v := .agg #[.bool true, .int .i64 (Pk.firstF F)]) (by simp [results, Tryz.results43, go_sem, l0, l1]) rfl ⟨?_, (hbl.setCell (p := ⟨w.heap.size + 1 + 1, 0, none⟩) (by simp; omega) _).setCell (p := ⟨w.heap.size + 1 + 1, 1, none⟩) (by simp; omega) _⟩
            rw [HFE.out, HT.out]; rfl
          · have hc4 : (wd == [115, 117, 109]) = false := by rw [HWD.out]; decide
            have hc5 : (wd == [109, 105, 110]) = false := by rw [HWD.out]; decide
            have hc6 : (wd == [109, 97, 120]) = false := by rw [HWD.out]; decide
            have hc7 : (wd == [102, 105, 114, 115, 116]) = false := by rw [HWD.out]; decide
            have HT : Hid (Pk.totK 8 F = some (Pk.lastF F)) := by show _ = _; simp [Pk.totK, hF0]
            clear hF0
            go_wp2_with fail
            refine (ksome_any _ _).mono ?_
            rintro e w4 ⟨rfl, e4⟩
            have B4 := hide (B1.out.trans (e4.mono B1.out.size))
            obtain ⟨r, hbl⟩ := HRES.out _ B4.out
            have r0 := r.cell 0
            have r1 := r.cell 1
            have f0 := free_of_heap r 0
            have f1 := free_of_heap r 1
            go_wp2
            obtain ⟨l0, l1⟩ := set2 r (.bool true) (.int .i64 (Pk.lastF F))
            refine bodyPost_ret (v := .agg #[.bool true, .int .i64 (Pk.lastF F)]) (by simp [results, Tryz.results43, go_sem, l0, l1]) rfl ⟨?_, (hbl.setCell (p := ⟨w.heap.size + 1 + 1, 0, none⟩) (by simp; omega) _).setCell (p := ⟨w.heap.size + 1 + 1, 1, none⟩) (by simp; omega) _⟩
            rw [HFE.out, HT.out]; rfl
end Go.Proofs.YtcoofnhdbejnpaaGreatDoor

/- Package paneskeep: alone, tile, shift. -/
namespace Go.Proofs.YtcoofnhdbejnpaaGreatDoor
open Go.RowKit
open Pk (LN Fx gAt vAt LineOk)
set_option maxRecDepth 100000 in
set_option maxHeartbeats 2000000 in
theorem kshift_any {w : World} {sg sv : Value} {L : LN} (hL : LM w sg sv L) {i : Nat} (hi : i < L.length) (j : Int) (h1 : -10 ≤ j) (h2 : j ≤ 10) :
    Calls Tryz.prog 45 #[lv sg sv, .int .i64 (i : Int), .int .i64 j] w fun e w' => e = .returned (vv (Pk.shiftK L i j)) ∧ Below w.heap.size w w' := by
  obtain ⟨g, off, cap, rfl, hcap⟩ := RdG.form1 hL.rv (by omega)
  obtain ⟨av, cv, rfl⟩ := RdG.sl hL.rg
  have HLM := hide hL
  have hl := hL.ok.len
  clear hL
  unfold lv
  go_enter Tryz.func45, Tryz.ntmps45
  go_upto_region 1 with fail
  have C0 := hide (K2.start w #[.slice av L.length cv, .slice (some ⟨g, off, none⟩) L.length cap] 27 #[.bool false, .int .i64 0] 52)
  generalize ((w.alloc (.cells #[.slice av L.length cv, .slice (some ⟨g, off, none⟩) L.length cap] 27)).alloc (.cells #[.bool false, .int .i64 0] 52)) = w0 at *
  have q1 : w0.cell? ⟨w.heap.size, 1, none⟩ = some (.slice (some ⟨g, off, none⟩) L.length cap) := cell_of_heap C0.out.a 1
  by_cases hlo : (i : Int) + j < 0
  · have HT : Hid (Pk.shiftK L i j = none) := by show _ = _; unfold Pk.shiftK; rw [if_pos (.inl hlo)]
    have r : Blk w0 (w.heap.size + 1) #[.bool false, .int .i64 0] 52 := C0.out.b
    have r0 := r.cell 0
    have r1 := r.cell 1
    have f0 := free_of_heap r 0
    have f1 := free_of_heap r 1
    go_wp2
    obtain ⟨l0, l1⟩ := set2 r (.bool false) (.int .i64 0)
    refine bodyPost_ret (v := .agg #[.bool false, .int .i64 0]) (by simp [results, Tryz.results45, go_sem, l0, l1]) rfl ⟨?_, (C0.out.bl.setCell (p := ⟨w.heap.size + 1, 0, none⟩) (by simp) _).setCell (p := ⟨w.heap.size + 1, 1, none⟩) (by simp) _⟩
    rw [HT.out]; rfl
  · by_cases hhi : (L.length : Int) ≤ (i : Int) + j
    · have HT : Hid (Pk.shiftK L i j = none) := by show _ = _; unfold Pk.shiftK; rw [if_pos (.inr hhi)]
      have r : Blk w0 (w.heap.size + 1) #[.bool false, .int .i64 0] 52 := C0.out.b
      have r0 := r.cell 0
      have r1 := r.cell 1
      have f0 := free_of_heap r 0
      have f1 := free_of_heap r 1
      go_wp2
      obtain ⟨l0, l1⟩ := set2 r (.bool false) (.int .i64 0)
      refine bodyPost_ret (v := .agg #[.bool false, .int .i64 0]) (by simp [results, Tryz.results45, go_sem, l0, l1]) rfl ⟨?_, (C0.out.bl.setCell (p := ⟨w.heap.size + 1, 0, none⟩) (by simp) _).setCell (p := ⟨w.heap.size + 1, 1, none⟩) (by simp) _⟩
      rw [HT.out]; rfl
    · obtain ⟨k, hk⟩ := Int.eq_ofNat_of_zero_le (show 0 ≤ (i : Int) + j by omega)
      have hkL : k < L.length := by omega
      have HT : Hid (Pk.shiftK L i j = some (vAt L k)) := by show _ = _; unfold Pk.shiftK; rw [if_neg (by omega), hk]; rfl
      have v1 := (HLM.out.below C0.out.bl).v hkL
      have hkL' : (k : Int) < (L.length : Int) := by omega
      obtain rfl : j = (k : Int) - i := by omega
      have hw : IntKind.i64.wrap ((i : Int) + ((k : Int) - i)) = (k : Int) := by rw [wrap_id (by omega) (by omega)]; omega
      generalize vAt L k = v at *
      go_wp2_with fail
      refine (ksome_any _ _).mono ?_
      rintro e w4 ⟨rfl, e4⟩
      have K4 := C0.out.below e4
      have r : Blk w4 (w.heap.size + 1) #[.bool false, .int .i64 0] 52 := K4.b
      have r0 := r.cell 0
      have r1 := r.cell 1
      have f0 := free_of_heap r 0
      have f1 := free_of_heap r 1
      go_wp2
      obtain ⟨l0, l1⟩ := set2 r (.bool true) (.int .i64 v)
      refine bodyPost_ret (v := .agg #[.bool true, .int .i64 v]) (by simp [results, Tryz.results45, go_sem, l0, l1]) rfl ⟨?_, (K4.bl.setCell (p := ⟨w.heap.size + 1, 0, none⟩) (by simp) _).setCell (p := ⟨w.heap.size + 1, 1, none⟩) (by simp) _⟩
      rw [HT.out]; rfl
set_option maxRecDepth 100000 in
set_option maxHeartbeats 2000000 in
theorem kalone_any {w : World} {sg sv : Value} {L : LN} (hL : LM w sg sv L) {i kd : Nat} (hi : i < L.length) (h3 : kd < 3) (n : Nat) (x : Fx) (wd : Pq.Bytes) (hwd : wd = Pq.kindTxt kd) :
    Calls Tryz.prog 42 #[lv sg sv, .string ⟨wd.toArray⟩, .int .i64 (i : Int)] w fun e w' => e = .returned (vv (Pk.valK L kd n x i)) ∧ Below w.heap.size w w' := by
  obtain ⟨g, off, cap, rfl, hcap⟩ := RdG.form1 hL.rg (by omega)
  obtain ⟨av, cv, rfl⟩ := RdG.sl hL.rv
  have HLM := hide hL
  have hl := hL.ok.len
  have hgi := (hL.ok.at hi).1
  obtain ⟨gi0, gi1⟩ := hgi
  have hi' : (i : Int) < (L.length : Int) := by omega
  clear hL
  unfold lv
  go_enter Tryz.func42, Tryz.ntmps42
  go_upto_region 1 with fail
  have C0 := hide (K2.start w #[.slice (some ⟨g, off, none⟩) L.length cap, .slice av L.length cv] 27 #[.bool false, .int .i64 0] 52)
  generalize ((w.alloc (.cells #[.slice (some ⟨g, off, none⟩) L.length cap, .slice av L.length cv] 27)).alloc (.cells #[.bool false, .int .i64 0] 52)) = w0 at *
  have AC : ∀ wx, Hid (Below w0.heap.size w0 wx → wx.cell? ⟨w.heap.size, 0, none⟩ = some (.slice (some ⟨g, off, none⟩) L.length cap)) := fun wx h => cell_of_heap (C0.out.below h).a 0
  have q0 := (AC w0).out (Below.refl _ _)
  have r1i := (HLM.out.below C0.out.bl).g hi
  have hor : kd = 0 ∨ kd = 2 ∨ kd = 1 := by omega
  rcases hor with rfl | rfl | rfl
  · have hc0 : (wd == [110, 117, 109, 98, 101, 114]) = true := by rw [hwd]; decide
    go_wp2_with fail
    refine (ksome_any _ _).mono ?_
    rintro e w4 ⟨rfl, e4⟩
    have K4 := C0.out.below e4
    have r : Blk w4 (w.heap.size + 1) #[.bool false, .int .i64 0] 52 := K4.b
    have r0 := r.cell 0
    have r1 := r.cell 1
    have f0 := free_of_heap r 0
    have f1 := free_of_heap r 1
    go_wp2
    obtain ⟨l0, l1⟩ := set2 r (.bool true) (.int .i64 ((i : Int) + 1))
    refine bodyPost_ret (v := .agg #[.bool true, .int .i64 ((i : Int) + 1)]) (by simp [results, Tryz.results42, go_sem, l0, l1]) rfl ⟨?_, (K4.bl.setCell (p := ⟨w.heap.size + 1, 0, none⟩) (by simp) _).setCell (p := ⟨w.heap.size + 1, 1, none⟩) (by simp) _⟩
    rfl
  · have hc0 : (wd == [110, 117, 109, 98, 101, 114]) = false := by rw [hwd]; decide
    have hc1 : (wd == [100, 101, 110, 115, 101]) = true := by rw [hwd]; decide
    have HT : Hid (Pk.valK L 2 n x i = some (gAt L i + 1)) := rfl
    generalize gAt L i = gi at *
    go_wp2_with fail
    refine (ksome_any _ _).mono ?_
    rintro e w4 ⟨rfl, e4⟩
    have K4 := C0.out.below e4
    have r : Blk w4 (w.heap.size + 1) #[.bool false, .int .i64 0] 52 := K4.b
    have r0 := r.cell 0
    have r1 := r.cell 1
    have f0 := free_of_heap r 0
    have f1 := free_of_heap r 1
    go_wp2
    obtain ⟨l0, l1⟩ := set2 r (.bool true) (.int .i64 (gi + 1))
    refine bodyPost_ret (v := .agg #[.bool true, .int .i64 (gi + 1)]) (by simp [results, Tryz.results42, go_sem, l0, l1]) rfl ⟨?_, (K4.bl.setCell (p := ⟨w.heap.size + 1, 0, none⟩) (by simp) _).setCell (p := ⟨w.heap.size + 1, 1, none⟩) (by simp) _⟩
    rw [HT.out]; rfl
  · have hc0 : (wd == [110, 117, 109, 98, 101, 114]) = false := by rw [hwd]; decide
    have hc1 : (wd == [100, 101, 110, 115, 101]) = false := by rw [hwd]; decide
    clear r1i q0
    go_wp2
    go_loopw [7] (fun kk wr => ∃ k : Nat, k ≤ i ∧ kk = .int .i64 k ∧ Hid (∀ m, k ≤ m → m ≤ i → gAt L m = gAt L i) ∧ Hid (Below w0.heap.size w0 wr)) (fun kk _ => (intOf kk).toNat)
    case atStart => exact ⟨i, Nat.le_refl _, rfl, fun m h1 h2 => by rw [show m = i by omega], Below.refl _ _⟩
    case round =>
      obtain ⟨k, hk, rfl, HS, B1⟩ := hrel
      have q0 := (AC _).out B1.out
      have r1i := (HLM.out.below (C0.out.below B1.out).bl).g hi
      cases k with
      | zero =>
        have HR := hide (Pk.rank_at HLM.out.ok hi (Nat.zero_le _) HS.out (.inl rfl))
        have HT : Hid (Pk.valK L 1 n x i = some (1 : Int)) := by show _ = _; unfold Pk.valK; rw [if_neg (by decide), if_pos rfl, HR.out]; rfl
        go_wp2
        go_quiet (fail)
        go_wp2_with fail
        refine (ksome_any _ _).mono ?_
        rintro e w4 ⟨rfl, e4⟩
        have B4 := (below_drewM B1.out _).trans (e4.mono (below_drewM B1.out _).size)
        have K4 := C0.out.below B4
        have r : Blk w4 (w.heap.size + 1) #[.bool false, .int .i64 0] 52 := K4.b
        have r0 := r.cell 0
        have r1 := r.cell 1
        have f0 := free_of_heap r 0
        have f1 := free_of_heap r 1
        go_wp2
        obtain ⟨l0, l1⟩ := set2 r (.bool true) (.int .i64 1)
        refine bodyPost_ret (v := .agg #[.bool true, .int .i64 1]) (by simp [results, Tryz.results42, go_sem, l0, l1]) rfl ⟨?_, (K4.bl.setCell (p := ⟨w.heap.size + 1, 0, none⟩) (by simp) _).setCell (p := ⟨w.heap.size + 1, 1, none⟩) (by simp) _⟩
        rw [HT.out]; rfl
      | succ j =>
        have hjL : j < L.length := by omega
        have hj' : (j : Int) < (L.length : Int) := by omega
        have r1j := (HLM.out.below (C0.out.below B1.out).bl).g hjL
        have hw : IntKind.i64.wrap (j : Int) = (j : Int) := wrap_id (by omega) (by omega)
        by_cases he : gAt L j = gAt L i
        · have HS2 : Hid (∀ m, j ≤ m → m ≤ i → gAt L m = gAt L i) := fun m h1 h2 => by
            rcases Nat.lt_or_ge j m with q | q
            · exact HS.out m q h2
            · rw [show m = j by omega]; exact he
          have hd : (gAt L j == gAt L i) = true := by simp [he]
          clear he HS
          generalize gAt L j = gj at *
          generalize gAt L i = gi at *
          go_wp2
          go_quiet (fail)
          go_wp2
          go_roundw
          case rel => exact ⟨j, by omega, by go_num, HS2, below_drewM B1.out _⟩
          case measure => simp [intOf]
        · have HR := hide (Pk.rank_at HLM.out.ok hi hk HS.out (.inr he))
          have HT : Hid (Pk.valK L 1 n x i = some ((j : Int) + 1 + 1)) := by
            show _ = _
            unfold Pk.valK
            rw [if_neg (by decide), if_pos rfl, HR.out]
            congr 1
            omega
          have hd : (gAt L j == gAt L i) = false := by simpa using he
          clear he HS HR
          generalize gAt L j = gj at *
          generalize gAt L i = gi at *
          go_wp2
          go_quiet (fail)
          go_wp2_with fail
          refine (ksome_any _ _).mono ?_
          rintro e w4 ⟨rfl, e4⟩
          have B4 := (below_drewM B1.out _).trans (e4.mono (below_drewM B1.out _).size)
          have K4 := C0.out.below B4
          have r : Blk w4 (w.heap.size + 1) #[.bool false, .int .i64 0] 52 := K4.b
          have r0 := r.cell 0
          have r1 := r.cell 1
          have f0 := free_of_heap r 0
          have f1 := free_of_heap r 1
          go_wp2
          obtain ⟨l0, l1⟩ := set2 r (.bool true) (.int .i64 ((j : Int) + 1 + 1))
          refine bodyPost_ret (v := .agg #[.bool true, .int .i64 ((j : Int) + 1 + 1)]) (by simp [results, Tryz.results42, go_sem, l0, l1]) rfl ⟨?_, (K4.bl.setCell (p := ⟨w.heap.size + 1, 0, none⟩) (by simp) _).setCell (p := ⟨w.heap.size + 1, 1, none⟩) (by simp) _⟩
          rw [HT.out]; rfl
end Go.Proofs.YtcoofnhdbejnpaaGreatDoor

