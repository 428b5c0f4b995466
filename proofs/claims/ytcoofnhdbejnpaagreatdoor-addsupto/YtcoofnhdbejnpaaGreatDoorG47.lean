/- Package paneskeep: a query. -/
import Derived.Test.YtcoofnhdbejnpaaGreatDoorG09
import Derived.Test.YtcoofnhdbejnpaaGreatDoorG46
import Derived.Test.YtcoofnhdbejnpaaGreatDoorG34
import Derived.Test.YtcoofnhdbejnpaaGreatDoorG42
namespace Go.Proofs.YtcoofnhdbejnpaaGreatDoor
open Go.RowKit
open Pk (TS nxt adv)
set_option maxRecDepth 100000 in
set_option maxHeartbeats 4000000 in
theorem query_any (s : ByteArray) (b t0 : Bool) (w : World) (hs : s.size ≤ maxLen) :
    Calls Tryz.prog 22 #[.string s, .bool b, .bool t0] w fun e w' => e = .returned (.agg #[.string ⟨(Pk.queryS s.data.toList b t0).raw.toArray⟩, .string ⟨(Pk.queryS s.data.toList b t0).plain.toArray⟩]) ∧ Below w.heap.size w w' := by
  have L0 : Hid ((((w.alloc (.cells #[.string ⟨#[]⟩, .string ⟨#[]⟩] 60 (0, 0))).alloc (.cells #[.string s, .int .i64 0] 31 (0, 0))).alloc (.cells #[.string ⟨#[]⟩, .string ⟨#[]⟩] 60 (0, 0))).heap[w.heap.size]? = some (.cells #[.string ⟨#[]⟩, .string ⟨#[]⟩] 60 (0, 0))) := heap_keepAlloc (heap_keepAlloc (heap_alloc_new w _) _) _
  have F0 : (((w.alloc (.cells #[.string ⟨#[]⟩, .string ⟨#[]⟩] 60 (0, 0))).alloc (.cells #[.string s, .int .i64 0] 31 (0, 0))).alloc (.cells #[.string ⟨#[]⟩, .string ⟨#[]⟩] 60 (0, 0))).heap[w.heap.size + 1]? = some (.cells #[.string s, .int .i64 0] 31 (0, 0)) := by
    refine heap_keepAlloc ?_ _
    have := heap_alloc_new (w.alloc (.cells #[.string ⟨#[]⟩, .string ⟨#[]⟩] 60 (0, 0))) (.cells #[.string s, .int .i64 0] 31 (0, 0))
    rwa [show (w.alloc (.cells #[.string ⟨#[]⟩, .string ⟨#[]⟩] 60 (0, 0))).heap.size = w.heap.size + 1 by simp] at this
  have X0 : (((w.alloc (.cells #[.string ⟨#[]⟩, .string ⟨#[]⟩] 60 (0, 0))).alloc (.cells #[.string s, .int .i64 0] 31 (0, 0))).alloc (.cells #[.string ⟨#[]⟩, .string ⟨#[]⟩] 60 (0, 0))).heap[w.heap.size + 1 + 1]? = some (.cells #[.string ⟨#[]⟩, .string ⟨#[]⟩] 60 (0, 0)) := by
    have := heap_alloc_new ((w.alloc (.cells #[.string ⟨#[]⟩, .string ⟨#[]⟩] 60 (0, 0))).alloc (.cells #[.string s, .int .i64 0] 31 (0, 0))) (.cells #[.string ⟨#[]⟩, .string ⟨#[]⟩] 60 (0, 0))
    rwa [show ((w.alloc (.cells #[.string ⟨#[]⟩, .string ⟨#[]⟩] 60 (0, 0))).alloc (.cells #[.string s, .int .i64 0] 31 (0, 0))).heap.size = w.heap.size + 1 + 1 by simp] at this
  have H0 : Hid (TF (((w.alloc (.cells #[.string ⟨#[]⟩, .string ⟨#[]⟩] 60 (0, 0))).alloc (.cells #[.string s, .int .i64 0] 31 (0, 0))).alloc (.cells #[.string ⟨#[]⟩, .string ⟨#[]⟩] 60 (0, 0))) (w.heap.size + 1) (w.heap.size + 1 + 1) s ⟨0, [], []⟩) := ⟨F0, X0, Nat.zero_le _, hs⟩
  have Q0 := G2.refl (w.heap.size + 1) (w.heap.size + 1 + 1) (((w.alloc (.cells #[.string ⟨#[]⟩, .string ⟨#[]⟩] 60 (0, 0))).alloc (.cells #[.string s, .int .i64 0] 31 (0, 0))).alloc (.cells #[.string ⟨#[]⟩, .string ⟨#[]⟩] 60 (0, 0)))
  have B0 : Below w.heap.size w (((w.alloc (.cells #[.string ⟨#[]⟩, .string ⟨#[]⟩] 60 (0, 0))).alloc (.cells #[.string s, .int .i64 0] 31 (0, 0))).alloc (.cells #[.string ⟨#[]⟩, .string ⟨#[]⟩] 60 (0, 0))) := (((Below.refl _ _).alloc (Nat.le_refl _) _).alloc (by simp) _).alloc (by simp; omega) _
  have hlt0 : w.heap.size + 1 < (((w.alloc (.cells #[.string ⟨#[]⟩, .string ⟨#[]⟩] 60 (0, 0))).alloc (.cells #[.string s, .int .i64 0] 31 (0, 0))).alloc (.cells #[.string ⟨#[]⟩, .string ⟨#[]⟩] 60 (0, 0))).heap.size := by simp
  have LN0 : Hid (Pk.Ln 0 ⟨0, [], []⟩) := ⟨Nat.le_refl _, Nat.le_refl _⟩
  clear F0 X0
  cases b
  · go_enter Tryz.func22, Tryz.ntmps22
    have LB : Hid (Pk.Ln 100 (Pk.byS s.data.toList false ⟨0, [], []⟩)) := LN0.out.mono (by omega)
    have H1 : Hid (TF (((w.alloc (.cells #[.string ⟨#[]⟩, .string ⟨#[]⟩] 60 (0, 0))).alloc (.cells #[.string s, .int .i64 0] 31 (0, 0))).alloc (.cells #[.string ⟨#[]⟩, .string ⟨#[]⟩] 60 (0, 0))) (w.heap.size + 1) (w.heap.size + 1 + 1) s (Pk.byS s.data.toList false ⟨0, [], []⟩)) := H0
    have Q1 := Q0
    go_wp2_with fail
    refine (word_any H1.out [111, 114, 100, 101, 114] (LB.out.ok (by omega)) (by simp)).mono ?_
    rintro e w2 ⟨rfl, h2, g2⟩
    have H2 := hide h2
    have Q2 := Q1.trans g2
    clear h2 g2
    have LO := hide (LB.out.word s.data.toList [111, 114, 100, 101, 114] (k := 5) (by simp))
    go_wp2_with fail
    refine (cols_true H2.out (LO.out.mono (by omega))).mono ?_
    rintro e w3 ⟨rfl, h3, g3⟩
    have H3 := hide h3
    have Q3 := Q2.trans g3
    clear h3 g3
    have LK := hide (LO.out.cols s.data.toList true)
    go_wp2_with fail
    refine (word_any H3.out [115, 104, 111, 119] (LK.out.ok (by omega)) (by simp)).mono ?_
    rintro e w4 ⟨rfl, h4, g4⟩
    have H4 := hide h4
    have Q4 := Q3.trans g4
    clear h4 g4
    have LS := hide (LK.out.word s.data.toList [115, 104, 111, 119] (k := 4) (by simp))
    have HM : Hid (Pk.mainS s.data.toList false ⟨0, [], []⟩ = Pk.funsTo s.data.toList (1 + nxt s.data.toList (Pk.wordS s.data.toList [115, 104, 111, 119] (Pk.colsS s.data.toList true (Pk.wordS s.data.toList [111, 114, 100, 101, 114] (Pk.byS s.data.toList false ⟨0, [], []⟩)))).a 4) ((Pk.wordS s.data.toList [115, 104, 111, 119] (Pk.colsS s.data.toList true (Pk.wordS s.data.toList [111, 114, 100, 101, 114] (Pk.byS s.data.toList false ⟨0, [], []⟩)))).eat s.data.toList)) := hide rfl
    generalize Pk.wordS s.data.toList [115, 104, 111, 119] (Pk.colsS s.data.toList true (Pk.wordS s.data.toList [111, 114, 100, 101, 114] (Pk.byS s.data.toList false ⟨0, [], []⟩))) = y at *
    go_wp2_with fail
    refine (next_any H4.out 4 (by omega) (by omega)).mono ?_
    rintro e w5 ⟨rfl, h5, g5⟩
    have H5 := hide h5
    have Q5 := Q4.trans g5
    clear h5 g5
    have hn4 := Pk.nxt_lt s.data.toList y.a 4 (by omega)
    have LE := hide (LS.out.eat s.data.toList)
    generalize nxt s.data.toList y.a 4 = n0 at *
    generalize y.eat s.data.toList = y1 at *
    have HLF : Hid (∀ k, k ≤ 4 → Pk.Ln 800 (Pk.funsTo s.data.toList k y1)) := fun k hk => (Pk.Ln.funsTo LE.out _ k).mono (by omega)
    go_wp2_with fail
    go_loopw [10] (fun i wr => ∃ k : Nat, k ≤ 1 + n0 ∧ i = .int .i64 k ∧ Hid (TF wr (w.heap.size + 1) (w.heap.size + 1 + 1) s (Pk.funsTo s.data.toList k y1)) ∧ G2 (w.heap.size + 1) (w.heap.size + 1 + 1) (((w.alloc (.cells #[.string ⟨#[]⟩, .string ⟨#[]⟩] 60 (0, 0))).alloc (.cells #[.string s, .int .i64 0] 31 (0, 0))).alloc (.cells #[.string ⟨#[]⟩, .string ⟨#[]⟩] 60 (0, 0))) wr) (fun i _ => 1 + n0 - (intOf i).toNat)
    case atStart => exact ⟨0, by omega, rfl, H5.out, Q5⟩
    case round =>
      obtain ⟨k, hk, rfl, HR, QR⟩ := hrel
      by_cases hlt : k < 1 + n0
      · by_cases hk0 : k = 0
        · have hk0' : ¬ (0 : Int) < (k : Int) := by omega
          have HC : Hid (Pk.commaS s.data.toList k (Pk.funsTo s.data.toList k y1) = Pk.funsTo s.data.toList k y1) := by show _ = _; simp only [Pk.commaS, hk0]; rfl
          have HK0 := hide hk0
          clear hk0
          rw [← HC.out] at HR
          clear HC
          go_wp2_with fail
          refine (fun_any HR.out (((HLF.out k (by omega)).comma _ k).mono (by omega))).mono ?_
          rintro e wb ⟨rfl, hb, gb⟩
          have HB := hide hb
          have QB := QR.trans gb
          clear hb gb
          go_wp2
          go_roundw
          case rel => exact ⟨k + 1, by omega, by go_num, HB.out, QB⟩
          case measure => simp [intOf]; omega
        · have hk0' : (0 : Int) < (k : Int) := by omega
          have HC : Hid (Pk.commaS s.data.toList k (Pk.funsTo s.data.toList k y1) = Pk.gluedS s.data.toList [44] (Pk.funsTo s.data.toList k y1)) := by show _ = _; simp only [Pk.commaS]; rw [if_pos (by omega)]
          have HK0 := hide hk0
          clear hk0
          go_wp2_with fail
          refine (glued_any HR.out [44] ((HLF.out k (by omega)).ok (by omega)) (by simp)).mono ?_
          rintro e wa ⟨rfl, ha, ga⟩
          have HA2 := hide ha
          have QA := QR.trans ga
          rw [← HC.out] at HA2
          clear ha ga HC
          go_wp2_with fail
          refine (fun_any HA2.out (((HLF.out k (by omega)).comma _ k).mono (by omega))).mono ?_
          rintro e wb ⟨rfl, hb, gb⟩
          have HB := hide hb
          have QB := QA.trans gb
          clear hb gb
          go_wp2
          go_roundw
          case rel => exact ⟨k + 1, by omega, by go_num, HB.out, QB⟩
          case measure => simp [intOf]; omega
      · have hkn : k = 1 + n0 := by omega
        have HMM : Hid (Pk.mainS s.data.toList false ⟨0, [], []⟩ = Pk.funsTo s.data.toList k y1) := by show _ = _; rw [HM.out, hkn]
        rw [← HMM.out] at HR
        have LM : Hid (Pk.Ln 800 (Pk.mainS s.data.toList false ⟨0, [], []⟩)) := by rw [HMM.out]; exact HLF.out k (by omega)
        have H20 := HR
        have Q20 := QR
        clear hkn HM HMM HLF LE HR QR
        cases t0
        · have HQ : Hid (Pk.queryS s.data.toList false false = Pk.mainS s.data.toList false ⟨0, [], []⟩) := hide rfl
          rw [← HQ.out] at H20
          have L20 := hide (Q20.keep L0.out (by omega) (by omega))
          have l0 := cell_of_heap L20.out 0
          have l1 := cell_of_heap L20.out 1
          have f0 := free_of_heap L20.out 0
          have f1 := free_of_heap L20.out 1
          obtain ⟨c0, c1, c2, c3⟩ := H20.out.cells
          have hn1 : w.heap.size + 1 + 1 ≠ w.heap.size := by omega
          go_wp2
          refine bodyPost_ret (v := .agg #[.string ⟨(Pk.queryS s.data.toList false false).raw.toArray⟩, .string ⟨(Pk.queryS s.data.toList false false).plain.toArray⟩]) (by simp [results, Tryz.results22, go_sem, l0, l1]) rfl ⟨rfl, ?_⟩
          exact (((B0.trans (Q20.below (by omega) (by omega) hlt0))).setCell (Nat.le_refl _) _).setCell (Nat.le_refl _) _
        · have HQ : Hid (Pk.queryS s.data.toList false true = Pk.topS s.data.toList (Pk.mainS s.data.toList false ⟨0, [], []⟩)) := hide rfl
          generalize Pk.mainS s.data.toList false ⟨0, [], []⟩ = m at *
          go_wp2_with fail
          refine (word_any H20.out [116, 111, 112] (LM.out.ok (by omega)) (by simp)).mono ?_
          rintro e w21 ⟨rfl, h21, g21⟩
          have H21 := hide h21
          have Q21 := Q20.trans g21
          clear h21 g21
          have LT1 := hide (LM.out.word s.data.toList [116, 111, 112] (k := 3) (by simp))
          have HTS : Hid (Pk.topS s.data.toList m = Pk.top3 s.data.toList (Pk.wordS s.data.toList [116, 111, 112] m)) := hide rfl
          have HPL : Hid (3 ≤ (Pk.wordS s.data.toList [116, 111, 112] m).plain.length) := by show 3 ≤ (m.plain ++ Pk.pre m ++ [116, 111, 112]).length; simp; omega
          generalize Pk.wordS s.data.toList [116, 111, 112] m = y2 at *
          go_wp2_with fail
          refine (next_any H21.out 6 (by omega) (by omega)).mono ?_
          rintro e w22 ⟨rfl, h22, g22⟩
          have H22 := hide h22
          have Q22 := Q21.trans g22
          clear h22 g22
          have hn6 := Pk.nxt_lt s.data.toList y2.a 6 (by omega)
          go_wp2_with fail
          refine (knumber_any H22.out (nxt s.data.toList y2.a 6 : Nat) true ((LT1.out.eat _).ok (by omega)) (by omega) (by omega)).mono ?_
          rintro e w23 ⟨rfl, h23, g23⟩
          have H23 := hide h23
          have Q23 := Q22.trans g23
          clear h23 g23
          have LT2 := hide ((LT1.out.eat s.data.toList).number s.data.toList (nxt s.data.toList y2.a 6) true)
          have HTS2 : Hid (Pk.top3 s.data.toList y2 = Pk.top4 s.data.toList (Pk.numberS s.data.toList (nxt s.data.toList y2.a 6) true (y2.eat s.data.toList))) := hide rfl
          have HPL2 : Hid (3 ≤ (Pk.numberS s.data.toList (nxt s.data.toList y2.a 6) true (y2.eat s.data.toList)).plain.length) := by show 3 ≤ (y2.plain ++ _ ++ _).length; have := HPL.out; simp; omega
          have H23' : Hid (TF w23 (w.heap.size + 1) (w.heap.size + 1 + 1) s (Pk.numberS s.data.toList (nxt s.data.toList y2.a 6) true (y2.eat s.data.toList))) := H23
          clear H23
          generalize Pk.numberS s.data.toList (nxt s.data.toList y2.a 6) true (y2.eat s.data.toList) = z at *
          go_wp2_with fail
          refine (next_any H23'.out 3 (by omega) (by omega)).mono ?_
          rintro e w24 ⟨rfl, h24, g24⟩
          have H24 := hide h24
          have Q24 := Q23.trans g24
          clear h24 g24
          have hn3 := Pk.nxt_lt s.data.toList z.a 3 (by omega)
          go_wp2_with fail
          refine (word_any H24.out [102, 114, 111, 109] ((LT2.out.eat _).ok (by omega)) (by simp)).mono ?_
          rintro e w25 ⟨rfl, h25, g25⟩
          have H25 := hide h25
          have Q25 := Q24.trans g25
          clear h25 g25
          have LT3 := hide ((LT2.out.eat s.data.toList).word s.data.toList [102, 114, 111, 109] (k := 4) (by simp))
          go_wp2_with fail
          refine (knumber_any H25.out (nxt s.data.toList z.a 3 : Nat) true (LT3.out.ok (by omega)) (by omega) (by omega)).mono ?_
          rintro e w26 ⟨rfl, h26, g26⟩
          have H26 := hide h26
          have Q26 := Q25.trans g26
          clear h26 g26
          have LT4 := hide (LT3.out.number s.data.toList (nxt s.data.toList z.a 3) true)
          have H26' : Hid (TF w26 (w.heap.size + 1) (w.heap.size + 1 + 1) s (Pk.top5 s.data.toList z)) := H26
          have LT5 : Hid (Pk.Ln 820 (Pk.top5 s.data.toList z)) := LT4.out.mono (by omega)
          have HPL3 : Hid (7 ≤ (Pk.top5 s.data.toList z).plain.length) := Pk.top5_len _ _ (by have := HPL2.out; intro e; rw [e] at this; simp at this)
          have HTS3 : Hid (Pk.top4 s.data.toList z = if nxt s.data.toList z.a 3 = 0 then { Pk.top5 s.data.toList z with plain := (Pk.top5 s.data.toList z).plain.take ((Pk.top5 s.data.toList z).plain.length - 7) } else Pk.top5 s.data.toList z) := hide rfl
          clear H26 LT4 LT3 LT2 LT1
          generalize Pk.top5 s.data.toList z = u at *
          by_cases hb0 : nxt s.data.toList z.a 3 = 0
          · have hb0' : ((nxt s.data.toList z.a 3 : Int) == 0) = true := by rw [hb0]; rfl
            have HQ2 : Hid (Pk.queryS s.data.toList false true = { u with plain := u.plain.take (u.plain.length - 7) }) := by show _ = _; rw [HQ.out, HTS.out, HTS2.out, HTS3.out, if_pos hb0]
            clear hb0
            go_wp2_with fail
            obtain ⟨c0, c1, c2, c3⟩ := H26'.out.cells
            obtain ⟨z0, z1, z2⟩ := H26'.out.free
            have p7 := HPL3.out
            have p8 := LT5.out.2
            have hwr : IntKind.i64.wrap ((u.plain.length : Int) - 7) = ((u.plain.length - 7 : Nat) : Int) := by rw [IntWalk.i64_in _ (by omega)]; omega
            go_still_tail 12, (by kernel_rfl)
            have H27 := hide (((H26'.out.setPlain ((⟨u.plain.toArray⟩ : ByteArray).extract 0 (u.plain.length - 7))).drew).is (show _ = ({ u with plain := u.plain.take (u.plain.length - 7) } : TS) by rw [extract_eq]; simp))
            rw [← HQ2.out] at H27
            have Q27 := (Q26.setT 1 (.string ((⟨u.plain.toArray⟩ : ByteArray).extract 0 (u.plain.length - 7)))).drew
            have L27 := hide (Q26.keep L0.out (by omega) (by omega))
            have l0 := cell_of_heap L27.out 0
            have l1 := cell_of_heap L27.out 1
            have f0 := free_of_heap L27.out 0
            have f1 := free_of_heap L27.out 1
            have hn1 : w.heap.size + 1 + 1 ≠ w.heap.size := by omega
            go_wp2
            refine bodyPost_ret (v := .agg #[.string ⟨u.raw.toArray⟩, .string ((⟨u.plain.toArray⟩ : ByteArray).extract 0 (u.plain.length - 7))]) (by simp [results, Tryz.results22, go_sem, l0, l1]) rfl ⟨?_, ?_⟩
            · rw [HQ2.out, extract_eq]; simp
            · first | exact ((B0.trans (Q27.below (by omega) (by omega) hlt0)).setCell (Nat.le_refl _) _).setCell (Nat.le_refl _) _ | exact (((B0.trans ((Q26.setT 1 _).below (by omega) (by omega) hlt0)).setCell (Nat.le_refl _) _).setCell (Nat.le_refl _) _).drew
          · have hb0' : ((nxt s.data.toList z.a 3 : Int) == 0) = false := by rw [beq_eq_false_iff_ne]; omega
            have HQ2 : Hid (Pk.queryS s.data.toList false true = u) := by show _ = _; rw [HQ.out, HTS.out, HTS2.out, HTS3.out, if_neg hb0]
            clear hb0
            rw [← HQ2.out] at H26'
            have L26 := hide (Q26.keep L0.out (by omega) (by omega))
            have l0 := cell_of_heap L26.out 0
            have l1 := cell_of_heap L26.out 1
            have f0 := free_of_heap L26.out 0
            have f1 := free_of_heap L26.out 1
            obtain ⟨c0, c1, c2, c3⟩ := H26'.out.cells
            have hn1 : w.heap.size + 1 + 1 ≠ w.heap.size := by omega
            go_wp2
            refine bodyPost_ret (v := .agg #[.string ⟨(Pk.queryS s.data.toList false true).raw.toArray⟩, .string ⟨(Pk.queryS s.data.toList false true).plain.toArray⟩]) (by simp [results, Tryz.results22, go_sem, l0, l1]) rfl ⟨rfl, ?_⟩
            exact (((B0.trans (Q26.below (by omega) (by omega) hlt0))).setCell (Nat.le_refl _) _).setCell (Nat.le_refl _) _
  · go_enter Tryz.func22, Tryz.ntmps22
    go_wp2_with fail
    refine (word_any H0.out [98, 121] (LN0.out.ok (by omega)) (by simp)).mono ?_
    rintro e w1 ⟨rfl, h1, g1⟩
    have H1 := hide h1
    have Q1 := Q0.trans g1
    clear h1 g1
    have LB1 := hide (LN0.out.word s.data.toList [98, 121] (k := 2) (by simp))
    go_wp2_with fail
    refine (cols_false H1.out (LB1.out.mono (by omega))).mono ?_
    rintro e w2 ⟨rfl, h2, g2⟩
    have H2 := hide h2
    have Q2 := Q1.trans g2
    clear h2 g2
    have LB : Hid (Pk.Ln 100 (Pk.byS s.data.toList true ⟨0, [], []⟩)) := (LB1.out.cols s.data.toList false).mono (by omega)
    have H3 : Hid (TF w2 (w.heap.size + 1) (w.heap.size + 1 + 1) s (Pk.byS s.data.toList true ⟨0, [], []⟩)) := H2
    have Q3 := Q2
    clear H2 Q2 H1 Q1
    generalize w2 = w3 at *
    go_wp2_with fail
    refine (word_any H3.out [111, 114, 100, 101, 114] (LB.out.ok (by omega)) (by simp)).mono ?_
    rintro e w4 ⟨rfl, h4, g4⟩
    have H4 := hide h4
    have Q4 := Q3.trans g4
    clear h4 g4
    have LO := hide (LB.out.word s.data.toList [111, 114, 100, 101, 114] (k := 5) (by simp))
    go_wp2_with fail
    refine (cols_true H4.out (LO.out.mono (by omega))).mono ?_
    rintro e w5 ⟨rfl, h5, g5⟩
    have H5 := hide h5
    have Q5 := Q4.trans g5
    clear h5 g5
    have LK := hide (LO.out.cols s.data.toList true)
    go_wp2_with fail
    refine (word_any H5.out [115, 104, 111, 119] (LK.out.ok (by omega)) (by simp)).mono ?_
    rintro e w6 ⟨rfl, h6, g6⟩
    have H6 := hide h6
    have Q6 := Q5.trans g6
    clear h6 g6
    have LS := hide (LK.out.word s.data.toList [115, 104, 111, 119] (k := 4) (by simp))
    have HM : Hid (Pk.mainS s.data.toList true ⟨0, [], []⟩ = Pk.funsTo s.data.toList (1 + nxt s.data.toList (Pk.wordS s.data.toList [115, 104, 111, 119] (Pk.colsS s.data.toList true (Pk.wordS s.data.toList [111, 114, 100, 101, 114] (Pk.byS s.data.toList true ⟨0, [], []⟩)))).a 4) ((Pk.wordS s.data.toList [115, 104, 111, 119] (Pk.colsS s.data.toList true (Pk.wordS s.data.toList [111, 114, 100, 101, 114] (Pk.byS s.data.toList true ⟨0, [], []⟩)))).eat s.data.toList)) := hide rfl
    generalize Pk.wordS s.data.toList [115, 104, 111, 119] (Pk.colsS s.data.toList true (Pk.wordS s.data.toList [111, 114, 100, 101, 114] (Pk.byS s.data.toList true ⟨0, [], []⟩))) = y at *
    go_wp2_with fail
    refine (next_any H6.out 4 (by omega) (by omega)).mono ?_
    rintro e w7 ⟨rfl, h7, g7⟩
    have H7 := hide h7
    have Q7 := Q6.trans g7
    clear h7 g7
    have hn4 := Pk.nxt_lt s.data.toList y.a 4 (by omega)
    have LE := hide (LS.out.eat s.data.toList)
    generalize nxt s.data.toList y.a 4 = n0 at *
    generalize y.eat s.data.toList = y1 at *
    have HLF : Hid (∀ k, k ≤ 4 → Pk.Ln 800 (Pk.funsTo s.data.toList k y1)) := fun k hk => (Pk.Ln.funsTo LE.out _ k).mono (by omega)
    go_wp2_with fail
    go_loopw [10] (fun i wr => ∃ k : Nat, k ≤ 1 + n0 ∧ i = .int .i64 k ∧ Hid (TF wr (w.heap.size + 1) (w.heap.size + 1 + 1) s (Pk.funsTo s.data.toList k y1)) ∧ G2 (w.heap.size + 1) (w.heap.size + 1 + 1) (((w.alloc (.cells #[.string ⟨#[]⟩, .string ⟨#[]⟩] 60 (0, 0))).alloc (.cells #[.string s, .int .i64 0] 31 (0, 0))).alloc (.cells #[.string ⟨#[]⟩, .string ⟨#[]⟩] 60 (0, 0))) wr) (fun i _ => 1 + n0 - (intOf i).toNat)
    case atStart => exact ⟨0, by omega, rfl, H7.out, Q7⟩
    case round =>
      obtain ⟨k, hk, rfl, HR, QR⟩ := hrel
      by_cases hlt : k < 1 + n0
      · by_cases hk0 : k = 0
        · have hk0' : ¬ (0 : Int) < (k : Int) := by omega
          have HC : Hid (Pk.commaS s.data.toList k (Pk.funsTo s.data.toList k y1) = Pk.funsTo s.data.toList k y1) := by show _ = _; simp only [Pk.commaS, hk0]; rfl
          have HK0 := hide hk0
          clear hk0
          rw [← HC.out] at HR
          clear HC
          go_wp2_with fail
          refine (fun_any HR.out (((HLF.out k (by omega)).comma _ k).mono (by omega))).mono ?_
          rintro e wb ⟨rfl, hb, gb⟩
          have HB := hide hb
          have QB := QR.trans gb
          clear hb gb
          go_wp2
          go_roundw
          case rel => exact ⟨k + 1, by omega, by go_num, HB.out, QB⟩
          case measure => simp [intOf]; omega
        · have hk0' : (0 : Int) < (k : Int) := by omega
          have HC : Hid (Pk.commaS s.data.toList k (Pk.funsTo s.data.toList k y1) = Pk.gluedS s.data.toList [44] (Pk.funsTo s.data.toList k y1)) := by show _ = _; simp only [Pk.commaS]; rw [if_pos (by omega)]
          have HK0 := hide hk0
          clear hk0
          go_wp2_with fail
          refine (glued_any HR.out [44] ((HLF.out k (by omega)).ok (by omega)) (by simp)).mono ?_
          rintro e wa ⟨rfl, ha, ga⟩
          have HA2 := hide ha
          have QA := QR.trans ga
          rw [← HC.out] at HA2
          clear ha ga HC
          go_wp2_with fail
          refine (fun_any HA2.out (((HLF.out k (by omega)).comma _ k).mono (by omega))).mono ?_
          rintro e wb ⟨rfl, hb, gb⟩
          have HB := hide hb
          have QB := QA.trans gb
          clear hb gb
          go_wp2
          go_roundw
          case rel => exact ⟨k + 1, by omega, by go_num, HB.out, QB⟩
          case measure => simp [intOf]; omega
      · have hkn : k = 1 + n0 := by omega
        have HMM : Hid (Pk.mainS s.data.toList true ⟨0, [], []⟩ = Pk.funsTo s.data.toList k y1) := by show _ = _; rw [HM.out, hkn]
        rw [← HMM.out] at HR
        have LM : Hid (Pk.Ln 800 (Pk.mainS s.data.toList true ⟨0, [], []⟩)) := by rw [HMM.out]; exact HLF.out k (by omega)
        have H20 := HR
        have Q20 := QR
        clear hkn HM HMM HLF LE HR QR
        cases t0
        · have HQ : Hid (Pk.queryS s.data.toList true false = Pk.mainS s.data.toList true ⟨0, [], []⟩) := hide rfl
          rw [← HQ.out] at H20
          have L20 := hide (Q20.keep L0.out (by omega) (by omega))
          have l0 := cell_of_heap L20.out 0
          have l1 := cell_of_heap L20.out 1
          have f0 := free_of_heap L20.out 0
          have f1 := free_of_heap L20.out 1
          obtain ⟨c0, c1, c2, c3⟩ := H20.out.cells
          have hn1 : w.heap.size + 1 + 1 ≠ w.heap.size := by omega
          go_wp2
          refine bodyPost_ret (v := .agg #[.string ⟨(Pk.queryS s.data.toList true false).raw.toArray⟩, .string ⟨(Pk.queryS s.data.toList true false).plain.toArray⟩]) (by simp [results, Tryz.results22, go_sem, l0, l1]) rfl ⟨rfl, ?_⟩
          exact (((B0.trans (Q20.below (by omega) (by omega) hlt0))).setCell (Nat.le_refl _) _).setCell (Nat.le_refl _) _
        · have HQ : Hid (Pk.queryS s.data.toList true true = Pk.topS s.data.toList (Pk.mainS s.data.toList true ⟨0, [], []⟩)) := hide rfl
          generalize Pk.mainS s.data.toList true ⟨0, [], []⟩ = m at *
          go_wp2_with fail
          refine (word_any H20.out [116, 111, 112] (LM.out.ok (by omega)) (by simp)).mono ?_
          rintro e w21 ⟨rfl, h21, g21⟩
          have H21 := hide h21
          have Q21 := Q20.trans g21
          clear h21 g21
          have LT1 := hide (LM.out.word s.data.toList [116, 111, 112] (k := 3) (by simp))
          have HTS : Hid (Pk.topS s.data.toList m = Pk.top3 s.data.toList (Pk.wordS s.data.toList [116, 111, 112] m)) := hide rfl
          have HPL : Hid (3 ≤ (Pk.wordS s.data.toList [116, 111, 112] m).plain.length) := by show 3 ≤ (m.plain ++ Pk.pre m ++ [116, 111, 112]).length; simp; omega
          generalize Pk.wordS s.data.toList [116, 111, 112] m = y2 at *
          go_wp2_with fail
          refine (next_any H21.out 6 (by omega) (by omega)).mono ?_
          rintro e w22 ⟨rfl, h22, g22⟩
          have H22 := hide h22
          have Q22 := Q21.trans g22
          clear h22 g22
          have hn6 := Pk.nxt_lt s.data.toList y2.a 6 (by omega)
          go_wp2_with fail
          refine (knumber_any H22.out (nxt s.data.toList y2.a 6 : Nat) true ((LT1.out.eat _).ok (by omega)) (by omega) (by omega)).mono ?_
          rintro e w23 ⟨rfl, h23, g23⟩
          have H23 := hide h23
          have Q23 := Q22.trans g23
          clear h23 g23
          have LT2 := hide ((LT1.out.eat s.data.toList).number s.data.toList (nxt s.data.toList y2.a 6) true)
          have HTS2 : Hid (Pk.top3 s.data.toList y2 = Pk.top4 s.data.toList (Pk.numberS s.data.toList (nxt s.data.toList y2.a 6) true (y2.eat s.data.toList))) := hide rfl
          have HPL2 : Hid (3 ≤ (Pk.numberS s.data.toList (nxt s.data.toList y2.a 6) true (y2.eat s.data.toList)).plain.length) := by show 3 ≤ (y2.plain ++ _ ++ _).length; have := HPL.out; simp; omega
          have H23' : Hid (TF w23 (w.heap.size + 1) (w.heap.size + 1 + 1) s (Pk.numberS s.data.toList (nxt s.data.toList y2.a 6) true (y2.eat s.data.toList))) := H23
          clear H23
          generalize Pk.numberS s.data.toList (nxt s.data.toList y2.a 6) true (y2.eat s.data.toList) = z at *
          go_wp2_with fail
          refine (next_any H23'.out 3 (by omega) (by omega)).mono ?_
          rintro e w24 ⟨rfl, h24, g24⟩
          have H24 := hide h24
          have Q24 := Q23.trans g24
          clear h24 g24
          have hn3 := Pk.nxt_lt s.data.toList z.a 3 (by omega)
          go_wp2_with fail
          refine (word_any H24.out [102, 114, 111, 109] ((LT2.out.eat _).ok (by omega)) (by simp)).mono ?_
          rintro e w25 ⟨rfl, h25, g25⟩
          have H25 := hide h25
          have Q25 := Q24.trans g25
          clear h25 g25
          have LT3 := hide ((LT2.out.eat s.data.toList).word s.data.toList [102, 114, 111, 109] (k := 4) (by simp))
          go_wp2_with fail
          refine (knumber_any H25.out (nxt s.data.toList z.a 3 : Nat) true (LT3.out.ok (by omega)) (by omega) (by omega)).mono ?_
          rintro e w26 ⟨rfl, h26, g26⟩
          have H26 := hide h26
          have Q26 := Q25.trans g26
          clear h26 g26
          have LT4 := hide (LT3.out.number s.data.toList (nxt s.data.toList z.a 3) true)
          have H26' : Hid (TF w26 (w.heap.size + 1) (w.heap.size + 1 + 1) s (Pk.top5 s.data.toList z)) := H26
          have LT5 : Hid (Pk.Ln 820 (Pk.top5 s.data.toList z)) := LT4.out.mono (by omega)
          have HPL3 : Hid (7 ≤ (Pk.top5 s.data.toList z).plain.length) := Pk.top5_len _ _ (by have := HPL2.out; intro e; rw [e] at this; simp at this)
          have HTS3 : Hid (Pk.top4 s.data.toList z = if nxt s.data.toList z.a 3 = 0 then { Pk.top5 s.data.toList z with plain := (Pk.top5 s.data.toList z).plain.take ((Pk.top5 s.data.toList z).plain.length - 7) } else Pk.top5 s.data.toList z) := hide rfl
          clear H26 LT4 LT3 LT2 LT1
          generalize Pk.top5 s.data.toList z = u at *
          by_cases hb0 : nxt s.data.toList z.a 3 = 0
          · have hb0' : ((nxt s.data.toList z.a 3 : Int) == 0) = true := by rw [hb0]; rfl
            have HQ2 : Hid (Pk.queryS s.data.toList true true = { u with plain := u.plain.take (u.plain.length - 7) }) := by show _ = _; rw [HQ.out, HTS.out, HTS2.out, HTS3.out, if_pos hb0]
            clear hb0
            go_wp2_with fail
            obtain ⟨c0, c1, c2, c3⟩ := H26'.out.cells
            obtain ⟨z0, z1, z2⟩ := H26'.out.free
            have p7 := HPL3.out
            have p8 := LT5.out.2
            have hwr : IntKind.i64.wrap ((u.plain.length : Int) - 7) = ((u.plain.length - 7 : Nat) : Int) := by rw [IntWalk.i64_in _ (by omega)]; omega
            go_still_tail 12, (by kernel_rfl)
            have H27 := hide (((H26'.out.setPlain ((⟨u.plain.toArray⟩ : ByteArray).extract 0 (u.plain.length - 7))).drew).is (show _ = ({ u with plain := u.plain.take (u.plain.length - 7) } : TS) by rw [extract_eq]; simp))
            rw [← HQ2.out] at H27
            have Q27 := (Q26.setT 1 (.string ((⟨u.plain.toArray⟩ : ByteArray).extract 0 (u.plain.length - 7)))).drew
            have L27 := hide (Q26.keep L0.out (by omega) (by omega))
            have l0 := cell_of_heap L27.out 0
            have l1 := cell_of_heap L27.out 1
            have f0 := free_of_heap L27.out 0
            have f1 := free_of_heap L27.out 1
            have hn1 : w.heap.size + 1 + 1 ≠ w.heap.size := by omega
            go_wp2
            refine bodyPost_ret (v := .agg #[.string ⟨u.raw.toArray⟩, .string ((⟨u.plain.toArray⟩ : ByteArray).extract 0 (u.plain.length - 7))]) (by simp [results, Tryz.results22, go_sem, l0, l1]) rfl ⟨?_, ?_⟩
            · rw [HQ2.out, extract_eq]; simp
            · first | exact ((B0.trans (Q27.below (by omega) (by omega) hlt0)).setCell (Nat.le_refl _) _).setCell (Nat.le_refl _) _ | exact (((B0.trans ((Q26.setT 1 _).below (by omega) (by omega) hlt0)).setCell (Nat.le_refl _) _).setCell (Nat.le_refl _) _).drew
          · have hb0' : ((nxt s.data.toList z.a 3 : Int) == 0) = false := by rw [beq_eq_false_iff_ne]; omega
            have HQ2 : Hid (Pk.queryS s.data.toList true true = u) := by show _ = _; rw [HQ.out, HTS.out, HTS2.out, HTS3.out, if_neg hb0]
            clear hb0
            rw [← HQ2.out] at H26'
            have L26 := hide (Q26.keep L0.out (by omega) (by omega))
            have l0 := cell_of_heap L26.out 0
            have l1 := cell_of_heap L26.out 1
            have f0 := free_of_heap L26.out 0
            have f1 := free_of_heap L26.out 1
            obtain ⟨c0, c1, c2, c3⟩ := H26'.out.cells
            have hn1 : w.heap.size + 1 + 1 ≠ w.heap.size := by omega
            go_wp2
            refine bodyPost_ret (v := .agg #[.string ⟨(Pk.queryS s.data.toList true true).raw.toArray⟩, .string ⟨(Pk.queryS s.data.toList true true).plain.toArray⟩]) (by simp [results, Tryz.results22, go_sem, l0, l1]) rfl ⟨rfl, ?_⟩
            exact (((B0.trans (Q26.below (by omega) (by omega) hlt0))).setCell (Nat.le_refl _) _).setCell (Nat.le_refl _) _
end Go.Proofs.YtcoofnhdbejnpaaGreatDoor

/- Package paneskeep: Undone answers true. -/
namespace Go.Proofs.YtcoofnhdbejnpaaGreatDoor
open Go.RowKit
theorem UM.start {w w1 w2 : World} {gx : Nat} {vb vk vf : Value} {has : Bool} {tp fr : Int} {Q : Pv.Qry} (hb : Below w.heap.size w w1) (hg : w.heap.size ≤ gx) (hx : XV w1 gx vb vk vf has tp fr (.slice none 0 0) Q []) (hw : w2 = w1.alloc (.cells #[.slice none 0 0, .slice none 0 0, .int .i64 0] 66)) : UM w.heap.size w w2 w1.heap.size gx Q [] 0 [] := by
  subst hw
  have hb2 := (Below.refl w1.heap.size w1).alloc (Nat.le_refl _) (.cells #[.slice none 0 0, .slice none 0 0, .int .i64 0] 66)
  exact ⟨hb.alloc hb.size _, hb.size, hg, Nat.le_refl _, Pk.CInv.nil, fun r => rfl, .slice none 0 0, .slice none 0 0, vb, vk, vf, has, tp, fr, .slice none 0 0, ⟨heap_alloc_new w1 _, World.ownsRow_nil _ _ _ _, World.ownsRow_nil _ _ _ _⟩, hx.below hb2⟩
end Go.Proofs.YtcoofnhdbejnpaaGreatDoor

