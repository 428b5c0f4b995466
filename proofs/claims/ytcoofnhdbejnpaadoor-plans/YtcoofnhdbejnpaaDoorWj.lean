/- Package panesref: Plan answers what panes.Plan answers. -/
import Derived.Test.YtcoofnhdbejnpaaDoorWi
import Derived.Test.YtcoofnhdbejnpaaDoorPlainB
import Derived.Test.YtcoofnhdbejnpaaDoorRf
namespace Go.Proofs.YtcoofnhdbejnpaaDoor
open Go.RowKit
set_option maxRecDepth 100000 in
set_option maxHeartbeats 2000000 in
theorem rplan_any (s : ByteArray) (w : World) (hs : s.size ≤ maxLen) :
    Calls Tryd.prog 10 #[.string s] w fun e w' => e = .returned (.tuple #[.string ⟨(planTxt s.data.toList).toArray⟩, .int .i64 (Pq.readE s.data.toList), .int .i64 (planP s.data.toList)]) ∧ Below w.heap.size w w' := by
  go_enter Tryd.func10, Tryd.ntmps10
  go_wp2_with fail
  refine (check_any s _ hs).mono ?_
  rintro e w1 ⟨b1, hcp⟩
  rcases hcp with ⟨hne, rfl⟩ | ⟨h0, P, v, vb, vk, vf, vals, hP, hE, rfl, rv, rb, rk, own, sr⟩
  · have HP : Hid (planTxt s.data.toList = [] ∧ planP s.data.toList = Pq.readP s.data.toList) := by show _ ∧ _; simp [planTxt, planP, hne]
    generalize hee : Pq.readE s.data.toList = ee at *
    generalize hpp : Pq.readP s.data.toList = pp at *
    have HEE := hide hee
    clear hee hpp
    have hne' : (ee != 0) = true := by simp [hne]
    clear hne
    go_wp2
    go_ret3
    rw [HP.out.1, HP.out.2, HEE.out]
    exact ⟨rfl, b1.alloc b1.size _⟩
  · have HE := hide hE
    have HP := hide hP
    have HPT : Hid (planTxt s.data.toList = Pr.glue true ((Pq.toksOf s.data.toList).take (P.endd (Pq.toksOf s.data.toList))) ∧ planP s.data.toList = 0) := by
      show _ ∧ _
      refine ⟨?_, by simp [planP, h0]⟩
      rw [Pr.plain_glue hP (Pq.toksOf s.data.toList).length false (Pr.manyF P.segs) P.twice (Pr.argF P.segs), ← hE]
      simp [planTxt, h0]
    have HTX : Hid (∀ x ∈ Pq.toksOf s.data.toList, x.text.length ≤ 300) := by
      intro x hx
      have := Pr.lexFrom_txt s.data.toList 0 x hx
      have hle : ¬ 300 < s.data.toList.length := by
        intro hgt
        rw [(Pq.readE_long hgt).1] at h0; cases h0
      omega
    have hl : (Pq.toksOf s.data.toList).length ≤ 300 := by
      have := Pq.lexFrom_len s.data.toList 0
      have hle : ¬ 300 < s.data.toList.length := by
        intro hgt
        rw [(Pq.readE_long hgt).1] at h0; cases h0
      unfold Pq.toksOf; omega
    have H0 := hide h0
    clear hE h0 hP
    generalize htk : Pq.toksOf s.data.toList = toks at *
    have HTK := hide htk
    clear htk
    have htl : 0 < toks.length := by have h2 := HP.out.sizes; have := h2.s; have := h2.t; have := h2.len; omega
    obtain ⟨g, off, cv, rfl⟩ := rv.form1 htl
    obtain ⟨ab, nb, cb, rfl⟩ := rb.form
    obtain ⟨ak, nk, ck, rfl⟩ := rk.form
    obtain ⟨af, nf, cf, rfl⟩ := own_sl own
    have RV := hide rv
    clear rv rb rk own sr
    go_upto_region 4 with fail
    have B2 := b1.alloc b1.size (.cells #[.slice ab nb cb, .slice ak nk ck, .slice af nf cf, .int .i64 P.topV, .int .i64 P.frm] 69)
    have R2 := hide (RV.out.below ((Below.refl _ _).alloc (Nat.le_refl _) (.cells #[.slice ab nb cb, .slice ak nk ck, .slice af nf cf, .int .i64 P.topV, .int .i64 P.frm] 69)))
    have m4 : (w1.alloc (.cells #[.slice ab nb cb, .slice ak nk ck, .slice af nf cf, .int .i64 P.topV, .int .i64 P.frm] 69)).cell? ⟨w1.heap.size, 4, none⟩ = some (.int .i64 P.frm) := cell_of_heap (alloc_at rfl) 4
    have HB2 := hide B2
    clear b1 RV B2
    generalize w1.heap.size = b at *
    generalize w1.alloc (.cells #[.slice ab nb cb, .slice ak nk ck, .slice af nf cf, .int .i64 P.topV, .int .i64 P.frm] 69) = w2 at *
    go_upto_if 29 with fail
    have hee : P.endd toks ≤ toks.length := by
      unfold Pr.Parts.endd; split
      · exact List.findIdx_le_length
      · exact Nat.le_refl _
    have HED : Hid (P.endd toks = if P.frm = 0 then Pr.findT Pq.wFrom toks else toks.length) := hide rfl
    go_cut [9] from 14 to 75 (fun v wx => v = .int .i64 (P.endd toks : Nat) ∧ wx = w2)
    case first =>
      by_cases hf : P.frm = 0
      · have HED2 : Hid (P.endd toks = Pr.findT Pq.wFrom toks) := by show _ = _; rw [HED.out, if_pos hf]
        have hfb : (P.frm == 0) = true := by simp [hf]
        clear hf
        go_wp2_with fail
        refine (find_any Pq.wFrom toks _ R2.out (by omega)).mono ?_
        rintro e w3 ⟨rfl, rfl⟩
        go_wp2
        go_meet
        case rel => exact ⟨by rw [HED2.out]; rfl, rfl⟩
      · have HED2 : Hid (P.endd toks = toks.length) := by show _ = _; rw [HED.out, if_neg hf]
        have hfb : (P.frm == 0) = false := by simp [hf]
        go_wp2
        go_meet
        case rel => exact ⟨by rw [HED2.out], rfl⟩
    case rest =>
      obtain ⟨rfl, rfl⟩ := hcut
      generalize P.endd toks = E at *
      clear HED m4
      go_wp2
      go_loop [10, 11] (fun t i => ∃ (k : Nat) (tk : ByteArray), k ≤ E ∧ i = .int .i64 k ∧ t = .string tk ∧ Hid (tk.data.toList = Pr.glue true (toks.take k))) (fun _ i => E - (intOf i).toNat)
      case atStart => exact ⟨0, ⟨#[]⟩, by omega, rfl, rfl, rfl⟩
      case round =>
        obtain ⟨k, tk, hk, rfl, rfl, HT⟩ := hrel
        have hts : tk.size ≤ 301 * k := by
          have := Pr.glue_len 300 (toks.take k) true (fun x hx => HTX.out x (List.mem_of_mem_take hx))
          rw [List.length_take] at this
          rw [← HT.out, size_of_list] at this
          have h3 : min k toks.length = k := by omega
          rw [h3] at this; exact this
        by_cases hlt : k < E
        · have hkl : k < toks.length := by omega
          obtain ⟨c0, c1⟩ := R2.out.cell k hkl
          have HG := hide (Pr.glue_take toks k hkl)
          have hsh := Pr.short_le toks[k].text
          have htx := HTX.out toks[k] (List.getElem_mem hkl)
          cases k with
          | zero =>
            have HGA := hide (Pr.gAt_zero toks)
            simp only [Nat.zero_mul, Nat.add_zero] at c0 c1
            go_wp2_with (go_at_call 23; refine (short_any _ _).mono ?_; rintro e w3 ⟨rfl, rfl⟩)
            go_round
            case rel =>
              refine ⟨0 + 1, _, by omega, by go_num, rfl, ?_⟩
              show _ = _
              rw [HG.out, HGA.out]
              simp [HT.out, Pr.sp]
            case measure => simp [intOf]; omega
          | succ j =>
            have HGS := hide (Pr.gAt_succ toks j hkl)
            obtain ⟨d0, d1⟩ := R2.out.cell j (by omega)
            have hwr : IntKind.i64.wrap (((j + 1 : Nat) : Int) - 1) = ((j : Nat) : Int) := by rw [IntKind.wrap_i64]; omega
            have hj0 : (((j + 1 : Nat) : Int) == 0) = false := by simp; omega
            cases hp : (toks[j].text == [40])
            · cases e1 : (toks[j + 1].text == [40])
              · cases e2 : (toks[j + 1].text == [41])
                · cases e3 : (toks[j + 1].text == [44])
                  · have HGA : Hid (Pr.gAt toks (j + 1) = false) := by show _ = _; rw [HGS.out]; show (_ == [40] || _ == [40] || _ == [41] || _ == [44]) = _; rw [hp, e1, e2, e3]; rfl
                    go_wp2_with (go_at_call 23; refine (short_any _ _).mono ?_; rintro e w3 ⟨rfl, rfl⟩)
                    go_round
                    case rel =>
                      refine ⟨j + 1 + 1, _, by omega, by go_num, rfl, ?_⟩
                      show _ = _
                      rw [HG.out, HGA.out]
                      simp [HT.out, Pr.sp]
                    case measure => simp [intOf]; omega
                  · have ex : toks[j + 1].text = [44] := by simpa using e3
                    have HGA : Hid (Pr.gAt toks (j + 1) = true) := by show _ = _; rw [HGS.out]; show (_ == [40] || _ == [40] || _ == [41] || _ == [44]) = _; rw [ex]; cases (toks[j].text == [40]) <;> rfl
                    have EX := hide ex
                    clear ex
                    go_wp2_with (go_at_call 23; refine (short_any _ _).mono ?_; rintro e w3 ⟨rfl, rfl⟩)
                    go_round
                    case rel =>
                      refine ⟨j + 1 + 1, _, by omega, by go_num, rfl, ?_⟩
                      show _ = _
                      rw [HG.out, HGA.out]
                      simp [HT.out, Pr.sp, EX.out, Pr.short]
                    case measure => simp [intOf]; omega
                · have ex : toks[j + 1].text = [41] := by simpa using e2
                  have HGA : Hid (Pr.gAt toks (j + 1) = true) := by show _ = _; rw [HGS.out]; show (_ == [40] || _ == [40] || _ == [41] || _ == [44]) = _; rw [ex]; cases (toks[j].text == [40]) <;> rfl
                  have EX := hide ex
                  clear ex
                  go_wp2_with (go_at_call 23; refine (short_any _ _).mono ?_; rintro e w3 ⟨rfl, rfl⟩)
                  go_round
                  case rel =>
                    refine ⟨j + 1 + 1, _, by omega, by go_num, rfl, ?_⟩
                    show _ = _
                    rw [HG.out, HGA.out]
                    simp [HT.out, Pr.sp, EX.out, Pr.short]
                  case measure => simp [intOf]; omega
              · have ex : toks[j + 1].text = [40] := by simpa using e1
                have HGA : Hid (Pr.gAt toks (j + 1) = true) := by show _ = _; rw [HGS.out]; show (_ == [40] || _ == [40] || _ == [41] || _ == [44]) = _; rw [ex]; cases (toks[j].text == [40]) <;> rfl
                have EX := hide ex
                clear ex
                go_wp2_with (go_at_call 23; refine (short_any _ _).mono ?_; rintro e w3 ⟨rfl, rfl⟩)
                go_round
                case rel =>
                  refine ⟨j + 1 + 1, _, by omega, by go_num, rfl, ?_⟩
                  show _ = _
                  rw [HG.out, HGA.out]
                  simp [HT.out, Pr.sp, EX.out, Pr.short]
                case measure => simp [intOf]; omega
            · cases e1 : (toks[j + 1].text == [40])
              · cases e2 : (toks[j + 1].text == [41])
                · cases e3 : (toks[j + 1].text == [44])
                  · have HGA : Hid (Pr.gAt toks (j + 1) = true) := by show _ = _; rw [HGS.out]; show (_ == [40] || _ == [40] || _ == [41] || _ == [44]) = _; rw [hp, e1, e2, e3]; rfl
                    go_wp2_with (go_at_call 23; refine (short_any _ _).mono ?_; rintro e w3 ⟨rfl, rfl⟩)
                    go_round
                    case rel =>
                      refine ⟨j + 1 + 1, _, by omega, by go_num, rfl, ?_⟩
                      show _ = _
                      rw [HG.out, HGA.out]
                      simp [HT.out, Pr.sp]
                    case measure => simp [intOf]; omega
                  · have ex : toks[j + 1].text = [44] := by simpa using e3
                    have HGA : Hid (Pr.gAt toks (j + 1) = true) := by show _ = _; rw [HGS.out]; show (_ == [40] || _ == [40] || _ == [41] || _ == [44]) = _; rw [ex]; cases (toks[j].text == [40]) <;> rfl
                    have EX := hide ex
                    clear ex
                    go_wp2_with (go_at_call 23; refine (short_any _ _).mono ?_; rintro e w3 ⟨rfl, rfl⟩)
                    go_round
                    case rel =>
                      refine ⟨j + 1 + 1, _, by omega, by go_num, rfl, ?_⟩
                      show _ = _
                      rw [HG.out, HGA.out]
                      simp [HT.out, Pr.sp, EX.out, Pr.short]
                    case measure => simp [intOf]; omega
                · have ex : toks[j + 1].text = [41] := by simpa using e2
                  have HGA : Hid (Pr.gAt toks (j + 1) = true) := by show _ = _; rw [HGS.out]; show (_ == [40] || _ == [40] || _ == [41] || _ == [44]) = _; rw [ex]; cases (toks[j].text == [40]) <;> rfl
                  have EX := hide ex
                  clear ex
                  go_wp2_with (go_at_call 23; refine (short_any _ _).mono ?_; rintro e w3 ⟨rfl, rfl⟩)
                  go_round
                  case rel =>
                    refine ⟨j + 1 + 1, _, by omega, by go_num, rfl, ?_⟩
                    show _ = _
                    rw [HG.out, HGA.out]
                    simp [HT.out, Pr.sp, EX.out, Pr.short]
                  case measure => simp [intOf]; omega
              · have ex : toks[j + 1].text = [40] := by simpa using e1
                have HGA : Hid (Pr.gAt toks (j + 1) = true) := by show _ = _; rw [HGS.out]; show (_ == [40] || _ == [40] || _ == [41] || _ == [44]) = _; rw [ex]; cases (toks[j].text == [40]) <;> rfl
                have EX := hide ex
                clear ex
                go_wp2_with (go_at_call 23; refine (short_any _ _).mono ?_; rintro e w3 ⟨rfl, rfl⟩)
                go_round
                case rel =>
                  refine ⟨j + 1 + 1, _, by omega, by go_num, rfl, ?_⟩
                  show _ = _
                  rw [HG.out, HGA.out]
                  simp [HT.out, Pr.sp, EX.out, Pr.short]
                case measure => simp [intOf]; omega
        · have hkn : ¬ (k : Int) < (E : Int) := by omega
          have hke : k = E := by omega
          have HKE := hide hke
          clear hke
          go_wp2
          go_ret3
          refine ⟨?_, HB2.out⟩
          rw [HPT.out.1, HPT.out.2, H0.out, ← HKE.out, ← HT.out]
          rfl
end Go.Proofs.YtcoofnhdbejnpaaDoor
