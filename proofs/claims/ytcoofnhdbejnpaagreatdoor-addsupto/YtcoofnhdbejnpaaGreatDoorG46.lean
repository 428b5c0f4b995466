/- Package paneskeep: functions. -/
import Derived.Test.YtcoofnhdbejnpaaGreatDoorG45
namespace Go.Proofs.YtcoofnhdbejnpaaGreatDoor
open Go.RowKit
open Pk (TS nxt adv)
theorem kind12 {w : World} {c : Nat} (h : w.heap[c]? = some (.cells #[.string ⟨#[110, 117, 109, 98, 101, 114]⟩, .string ⟨#[114, 97, 110, 107]⟩, .string ⟨#[100, 101, 110, 115, 101]⟩, .string ⟨#[116, 105, 108, 101]⟩, .string ⟨#[108, 97, 103]⟩, .string ⟨#[108, 101, 97, 100]⟩, .string ⟨#[99, 111, 117, 110, 116]⟩, .string ⟨#[115, 117, 109]⟩, .string ⟨#[109, 105, 110]⟩, .string ⟨#[109, 97, 120]⟩, .string ⟨#[102, 105, 114, 115, 116]⟩, .string ⟨#[108, 97, 115, 116]⟩] 9 (0, 0))) (j : Nat) (hj : j < 12) : w.cell? ⟨c, j, none⟩ = some (.string ⟨(Pq.kindTxt j).toArray⟩) := by
  rw [cell_of_heap h j]
  match j, hj with
  | 0, _ => rfl
  | 1, _ => rfl
  | 2, _ => rfl
  | 3, _ => rfl
  | 4, _ => rfl
  | 5, _ => rfl
  | 6, _ => rfl
  | 7, _ => rfl
  | 8, _ => rfl
  | 9, _ => rfl
  | 10, _ => rfl
  | 11, _ => rfl
theorem col3 {w : World} {c : Nat} (h : w.heap[c]? = some (.cells #[.string ⟨#[112]⟩, .string ⟨#[107]⟩, .string ⟨#[118]⟩] 9 (0, 0))) (j : Nat) (hj : j < 3) : w.cell? ⟨c, j, none⟩ = some (.string ⟨(Pk.colW j).toArray⟩) := by
  rw [cell_of_heap h j]
  match j, hj with
  | 0, _ => rfl
  | 1, _ => rfl
  | 2, _ => rfl
set_option maxHeartbeats 4000000 in
theorem fun_any {w : World} {bf bt : Nat} {s : ByteArray} {x : TS} (h : TF w bf bt s x) (hx : Pk.Ln 900000 x) :
    Calls Tryz.prog 55 #[.pointer (some ⟨bt, 0, none⟩), .pointer (some ⟨bf, 0, none⟩)] w fun e w' => e = .returned (.tuple #[]) ∧ TF w' bf bt s (Pk.funS s.data.toList x) ∧ G2 bf bt w w' := by
  have H := hide h
  have HX := hide hx
  have hcf : w.heap.size ≠ bf := Nat.ne_of_gt h.lt.1
  have hct : w.heap.size ≠ bt := Nat.ne_of_gt h.lt.2
  have hdf : w.heap.size + 1 ≠ bf := by have := h.lt.1; omega
  have hdt : w.heap.size + 1 ≠ bt := by have := h.lt.2; omega
  clear h hx
  go_enter Tryz.func55, Tryz.ntmps55
  go_wp2_with fail
  have L0 := hide (heap_keepAlloc (heap_alloc_new w (.cells #[.string ⟨#[110, 117, 109, 98, 101, 114]⟩, .string ⟨#[114, 97, 110, 107]⟩, .string ⟨#[100, 101, 110, 115, 101]⟩, .string ⟨#[116, 105, 108, 101]⟩, .string ⟨#[108, 97, 103]⟩, .string ⟨#[108, 101, 97, 100]⟩, .string ⟨#[99, 111, 117, 110, 116]⟩, .string ⟨#[115, 117, 109]⟩, .string ⟨#[109, 105, 110]⟩, .string ⟨#[109, 97, 120]⟩, .string ⟨#[102, 105, 114, 115, 116]⟩, .string ⟨#[108, 97, 115, 116]⟩] 9 (0, 0))) (.cells #[.string ⟨#[112]⟩, .string ⟨#[107]⟩, .string ⟨#[118]⟩] 9 (0, 0)))
  have M0 : Hid (((w.alloc (.cells #[.string ⟨#[110, 117, 109, 98, 101, 114]⟩, .string ⟨#[114, 97, 110, 107]⟩, .string ⟨#[100, 101, 110, 115, 101]⟩, .string ⟨#[116, 105, 108, 101]⟩, .string ⟨#[108, 97, 103]⟩, .string ⟨#[108, 101, 97, 100]⟩, .string ⟨#[99, 111, 117, 110, 116]⟩, .string ⟨#[115, 117, 109]⟩, .string ⟨#[109, 105, 110]⟩, .string ⟨#[109, 97, 120]⟩, .string ⟨#[102, 105, 114, 115, 116]⟩, .string ⟨#[108, 97, 115, 116]⟩] 9 (0, 0))).alloc (.cells #[.string ⟨#[112]⟩, .string ⟨#[107]⟩, .string ⟨#[118]⟩] 9 (0, 0))).heap[w.heap.size + 1]? = some (.cells #[.string ⟨#[112]⟩, .string ⟨#[107]⟩, .string ⟨#[118]⟩] 9 (0, 0))) := by show _ = _; have := heap_alloc_new (w.alloc (.cells #[.string ⟨#[110, 117, 109, 98, 101, 114]⟩, .string ⟨#[114, 97, 110, 107]⟩, .string ⟨#[100, 101, 110, 115, 101]⟩, .string ⟨#[116, 105, 108, 101]⟩, .string ⟨#[108, 97, 103]⟩, .string ⟨#[108, 101, 97, 100]⟩, .string ⟨#[99, 111, 117, 110, 116]⟩, .string ⟨#[115, 117, 109]⟩, .string ⟨#[109, 105, 110]⟩, .string ⟨#[109, 97, 120]⟩, .string ⟨#[102, 105, 114, 115, 116]⟩, .string ⟨#[108, 97, 115, 116]⟩] 9 (0, 0))) (.cells #[.string ⟨#[112]⟩, .string ⟨#[107]⟩, .string ⟨#[118]⟩] 9 (0, 0)); simpa using this
  have Q0 := ((G2.refl bf bt w).alloc (.cells #[.string ⟨#[110, 117, 109, 98, 101, 114]⟩, .string ⟨#[114, 97, 110, 107]⟩, .string ⟨#[100, 101, 110, 115, 101]⟩, .string ⟨#[116, 105, 108, 101]⟩, .string ⟨#[108, 97, 103]⟩, .string ⟨#[108, 101, 97, 100]⟩, .string ⟨#[99, 111, 117, 110, 116]⟩, .string ⟨#[115, 117, 109]⟩, .string ⟨#[109, 105, 110]⟩, .string ⟨#[109, 97, 120]⟩, .string ⟨#[102, 105, 114, 115, 116]⟩, .string ⟨#[108, 97, 115, 116]⟩] 9 (0, 0))).alloc (.cells #[.string ⟨#[112]⟩, .string ⟨#[107]⟩, .string ⟨#[118]⟩] 9 (0, 0))
  refine (next_any ((H.out.alloc _).alloc _) 12 (by omega) (by omega)).mono ?_
  rintro e w1 ⟨rfl, h1, g1⟩
  have H1 := hide h1
  have Q1 := Q0.trans g1
  have L1 := hide (g1.keep L0.out hcf hct)
  have M1 := hide (g1.keep M0.out hdf hdt)
  clear h1 g1 L0 M0 Q0
  have hk := Pk.nxt_lt s.data.toList x.a 12 (by omega)
  have HE0 : Hid (Pk.funS s.data.toList x = if nxt s.data.toList x.a 12 < 3 then (Pk.wordS s.data.toList (Pq.kindTxt (nxt s.data.toList x.a 12)) (x.eat s.data.toList))
    else if nxt s.data.toList x.a 12 = 3 then Pk.gluedS s.data.toList [41] (Pk.tileS s.data.toList (Pk.gluedS s.data.toList [40] (Pk.wordS s.data.toList (Pq.kindTxt (nxt s.data.toList x.a 12)) (x.eat s.data.toList))))
    else if nxt s.data.toList x.a 12 < 6 then Pk.gluedS s.data.toList [41] (Pk.lagS s.data.toList (Pk.colArg s.data.toList (Pk.wordS s.data.toList (Pq.kindTxt (nxt s.data.toList x.a 12)) (x.eat s.data.toList))))
    else Pk.gluedS s.data.toList [41] (Pk.frameS s.data.toList (Pk.colArg s.data.toList (Pk.wordS s.data.toList (Pq.kindTxt (nxt s.data.toList x.a 12)) (x.eat s.data.toList))))) := hide rfl
  have hw := Pq.kindTxt_len (nxt s.data.toList x.a 12)
  have LY : Hid (Pk.Ln 900009 (Pk.wordS s.data.toList (Pq.kindTxt (nxt s.data.toList x.a 12)) (x.eat s.data.toList))) := (HX.out.eat _).word _ _ hw
  generalize nxt s.data.toList x.a 12 = k at *
  have cw := kind12 L1.out k hk
  go_wp2_with fail
  refine (word_any H1.out (Pq.kindTxt k) ((HX.out.eat _).ok (by omega)) (by omega)).mono ?_
  rintro e w2 ⟨rfl, h2, g2⟩
  have H2 := hide h2
  have Q2 := Q1.trans g2
  have M2 := hide (g2.keep M1.out hdf hdt)
  clear h2 g2
  clear cw hw H1 L1 M1 Q1
  generalize Pk.wordS s.data.toList (Pq.kindTxt k) (x.eat s.data.toList) = y at *
  by_cases h3 : k < 3
  · have HE : Hid (Pk.funS s.data.toList x = y) := by show _ = _; rw [HE0.out, if_pos h3]
    clear HE0
    go_wp2
    ((try simp only [Exit.inBlock, Exit.then]); refine bodyPost_ret (results_none rfl _ _ _) rfl ?_)
    rw [HE.out]
    exact ⟨rfl, H2.out, Q2⟩
  · by_cases h4 : k = 3
    · have HE : Hid (Pk.funS s.data.toList x = Pk.gluedS s.data.toList [41] (Pk.tileS s.data.toList (Pk.gluedS s.data.toList [40] y))) := by show _ = _; rw [HE0.out, if_neg h3, if_pos h4]
      have h4' : ((k : Int) == 3) = true := by rw [h4]; rfl
      clear HE0 h3
      have HK := hide h4
      have h3 : 3 ≤ k := by omega
      clear h4
      go_wp2_with fail
      refine (glued_any H2.out [40] (LY.out.ok (by omega)) (by simp)).mono ?_
      rintro e w3 ⟨rfl, h3, g3⟩
      have H3 := hide h3
      have Q3 := Q2.trans g3
      have M3 := hide (g3.keep M2.out hdf hdt)
      clear h3 g3
      have LG := hide (LY.out.glued s.data.toList [40] (k := 1) (by simp))
      generalize Pk.gluedS s.data.toList [40] y = z at *
      go_wp2_with fail
      refine (next_any H3.out 6 (by omega) (by omega)).mono ?_
      rintro e w4 ⟨rfl, h4, g4⟩
      have H4 := hide h4
      have Q4 := Q3.trans g4
      have M4 := hide (g4.keep M3.out hdf hdt)
      clear h4 g4
      have hn6 := Pk.nxt_lt s.data.toList z.a 6 (by omega)
      go_wp2_with fail
      refine (knumber_any H4.out (1 + (nxt s.data.toList z.a 6 : Int)) false ((LG.out.eat _).ok (by omega)) (by omega) (by omega)).mono ?_
      rintro e w5 ⟨rfl, h5, g5⟩
      have H5 := hide h5
      have Q5 := Q4.trans g5
      have M5 := hide (g5.keep M4.out hdf hdt)
      clear h5 g5
      have en : (1 + (nxt s.data.toList z.a 6 : Int)).toNat = 1 + nxt s.data.toList z.a 6 := by omega
      rw [en] at H5
      clear en
      have LT : Hid (Pk.Ln 900020 (Pk.tileS s.data.toList z)) := (((LG.out.eat _).number _ _ _).mono (by omega))
      have H6 : Hid (TF w5 bf bt s (Pk.tileS s.data.toList z)) := H5
      have Q6 := Q5
      clear H5 Q5
      generalize Pk.tileS s.data.toList z = u at *
      generalize w5 = w6 at *
      go_wp2_with fail
      refine (glued_any H6.out [41] (LT.out.ok (by omega)) (by simp)).mono ?_
      rintro e w7 ⟨rfl, h7, g7⟩
      have H7 := hide h7
      have Q7 := Q6.trans g7
      clear h7 g7
      go_wp2
      ((try simp only [Exit.inBlock, Exit.then]); refine bodyPost_ret (results_none rfl _ _ _) rfl ?_)
      rw [HE.out]
      exact ⟨rfl, H7.out, Q7⟩
    · have h4' : ((k : Int) == 3) = false := by rw [beq_eq_false_iff_ne]; omega
      by_cases h6 : k < 6
      · have HE : Hid (Pk.funS s.data.toList x = Pk.gluedS s.data.toList [41] (Pk.lagS s.data.toList (Pk.colArg s.data.toList y))) := by show _ = _; rw [HE0.out, if_neg h3, if_neg h4, if_pos h6]
        clear HE0
        go_wp2_with fail
        refine (glued_any H2.out [40] (LY.out.ok (by omega)) (by simp)).mono ?_
        rintro e w3 ⟨rfl, h3, g3⟩
        have H3 := hide h3
        have Q3 := Q2.trans g3
        have M3 := hide (g3.keep M2.out hdf hdt)
        clear h3 g3
        have LG := hide (LY.out.glued s.data.toList [40] (k := 1) (by simp))
        have HCA : Hid (Pk.colArg s.data.toList y = Pk.gluedS s.data.toList [44] (Pk.gluedS s.data.toList (Pk.colW (nxt s.data.toList (Pk.gluedS s.data.toList [40] y).a 3)) ((Pk.gluedS s.data.toList [40] y).eat s.data.toList))) := hide rfl
        have LC := hide (LY.out.colArg s.data.toList)
        generalize Pk.gluedS s.data.toList [40] y = z at *
        go_wp2_with fail
        refine (next_any H3.out 3 (by omega) (by omega)).mono ?_
        rintro e w4 ⟨rfl, h4, g4⟩
        have H4 := hide h4
        have Q4 := Q3.trans g4
        have M4 := hide (g4.keep M3.out hdf hdt)
        clear h4 g4
        have hn3 := Pk.nxt_lt s.data.toList z.a 3 (by omega)
        generalize nxt s.data.toList z.a 3 = cc at *
        have cc3 := col3 M4.out cc hn3
        have lc := Pk.colW_len cc
        go_wp2_with fail
        refine (glued_any H4.out (Pk.colW cc) ((LG.out.eat _).ok (by omega)) (by omega)).mono ?_
        rintro e w5 ⟨rfl, h5, g5⟩
        have H5 := hide h5
        have Q5 := Q4.trans g5
        have M5 := hide (g5.keep M4.out hdf hdt)
        clear h5 g5
        have LG2 := hide ((LG.out.eat s.data.toList).glued s.data.toList (Pk.colW cc) (k := 1) (by omega))
        clear cc3 lc
        go_wp2_with fail
        refine (glued_any H5.out [44] (LG2.out.ok (by omega)) (by simp)).mono ?_
        rintro e w6 ⟨rfl, h6, g6⟩
        have H6 := hide h6
        have Q6 := Q5.trans g6
        have M6 := hide (g6.keep M5.out hdf hdt)
        clear h6 g6
        rw [← HCA.out] at H6
        have H7 := H6
        have Q7 := Q6
        have M7 := M6
        clear H6 Q6 M6 HCA
        generalize Pk.colArg s.data.toList y = v at *
        generalize w6 = w7 at *
        go_wp2_with fail
        refine (next_any H7.out 4 (by omega) (by omega)).mono ?_
        rintro e w8 ⟨rfl, h8, g8⟩
        have H8 := hide h8
        have Q8 := Q7.trans g8
        have M8 := hide (g8.keep M7.out hdf hdt)
        clear h8 g8
        have hn4 := Pk.nxt_lt s.data.toList v.a 4 (by omega)
        go_wp2_with fail
        refine (knumber_any H8.out (nxt s.data.toList v.a 4 : Nat) true ((LC.out.eat _).ok (by omega)) (by omega) (by omega)).mono ?_
        rintro e w9 ⟨rfl, h9, g9⟩
        have H9 := hide h9
        have Q9 := Q8.trans g9
        have M9 := hide (g9.keep M8.out hdf hdt)
        clear h9 g9
        have LT : Hid (Pk.Ln 900030 (Pk.lagS s.data.toList v)) := (((LC.out.eat _).number _ _ _).mono (by omega))
        have H10 : Hid (TF w9 bf bt s (Pk.lagS s.data.toList v)) := H9
        have Q10 := Q9
        clear H9 Q9
        generalize Pk.lagS s.data.toList v = u at *
        generalize w9 = w10 at *
        go_wp2_with fail
        refine (glued_any H10.out [41] (LT.out.ok (by omega)) (by simp)).mono ?_
        rintro e w11 ⟨rfl, h11, g11⟩
        have H11 := hide h11
        have Q11 := Q10.trans g11
        clear h11 g11
        go_wp2
        go_end0
        rw [HE.out]
        exact ⟨rfl, H11.out, Q11⟩
      · have HE : Hid (Pk.funS s.data.toList x = Pk.gluedS s.data.toList [41] (Pk.frameS s.data.toList (Pk.colArg s.data.toList y))) := by show _ = _; rw [HE0.out, if_neg h3, if_neg h4, if_neg h6]
        clear HE0
        go_wp2_with fail
        refine (glued_any H2.out [40] (LY.out.ok (by omega)) (by simp)).mono ?_
        rintro e w3 ⟨rfl, h3, g3⟩
        have H3 := hide h3
        have Q3 := Q2.trans g3
        have M3 := hide (g3.keep M2.out hdf hdt)
        clear h3 g3
        have LG := hide (LY.out.glued s.data.toList [40] (k := 1) (by simp))
        have HCA : Hid (Pk.colArg s.data.toList y = Pk.gluedS s.data.toList [44] (Pk.gluedS s.data.toList (Pk.colW (nxt s.data.toList (Pk.gluedS s.data.toList [40] y).a 3)) ((Pk.gluedS s.data.toList [40] y).eat s.data.toList))) := hide rfl
        have LC := hide (LY.out.colArg s.data.toList)
        generalize Pk.gluedS s.data.toList [40] y = z at *
        go_wp2_with fail
        refine (next_any H3.out 3 (by omega) (by omega)).mono ?_
        rintro e w4 ⟨rfl, h4, g4⟩
        have H4 := hide h4
        have Q4 := Q3.trans g4
        have M4 := hide (g4.keep M3.out hdf hdt)
        clear h4 g4
        have hn3 := Pk.nxt_lt s.data.toList z.a 3 (by omega)
        generalize nxt s.data.toList z.a 3 = cc at *
        have cc3 := col3 M4.out cc hn3
        have lc := Pk.colW_len cc
        go_wp2_with fail
        refine (glued_any H4.out (Pk.colW cc) ((LG.out.eat _).ok (by omega)) (by omega)).mono ?_
        rintro e w5 ⟨rfl, h5, g5⟩
        have H5 := hide h5
        have Q5 := Q4.trans g5
        have M5 := hide (g5.keep M4.out hdf hdt)
        clear h5 g5
        have LG2 := hide ((LG.out.eat s.data.toList).glued s.data.toList (Pk.colW cc) (k := 1) (by omega))
        clear cc3 lc
        go_wp2_with fail
        refine (glued_any H5.out [44] (LG2.out.ok (by omega)) (by simp)).mono ?_
        rintro e w6 ⟨rfl, h6, g6⟩
        have H6 := hide h6
        have Q6 := Q5.trans g6
        have M6 := hide (g6.keep M5.out hdf hdt)
        clear h6 g6
        rw [← HCA.out] at H6
        have H7 := H6
        have Q7 := Q6
        have M7 := M6
        clear H6 Q6 M6 HCA
        generalize Pk.colArg s.data.toList y = v at *
        generalize w6 = w7 at *
        have LFR := hide (LC.out.frame s.data.toList)
        have HFR : Hid (Pk.frameS s.data.toList v = if nxt s.data.toList v.a 4 = 1 then Pk.wordS s.data.toList Pq.wAll (v.eat s.data.toList)
          else if nxt s.data.toList (v.eat s.data.toList).a 4 = 1 then Pk.wordS s.data.toList Pq.wPeers ((v.eat s.data.toList).eat s.data.toList)
          else if nxt s.data.toList ((v.eat s.data.toList).eat s.data.toList).a 4 = 1 then Pk.nearS s.data.toList (((v.eat s.data.toList).eat s.data.toList).eat s.data.toList)
          else Pk.betweenS s.data.toList (((v.eat s.data.toList).eat s.data.toList).eat s.data.toList)) := hide rfl
        go_wp2_with fail
        refine (next_any H7.out 4 (by omega) (by omega)).mono ?_
        rintro e w8 ⟨rfl, h8, g8⟩
        have H8 := hide h8
        have Q8 := Q7.trans g8
        clear h8 g8
        by_cases q1 : nxt s.data.toList v.a 4 = 1
        · have q1' : ((nxt s.data.toList v.a 4 : Int) == 1) = true := by rw [q1]; rfl
          have HF2 : Hid (Pk.frameS s.data.toList v = Pk.wordS s.data.toList Pq.wAll (v.eat s.data.toList)) := by show _ = _; rw [HFR.out, if_pos q1]
          clear q1 HFR
          go_wp2_with fail
          refine (word_any H8.out Pq.wAll ((LC.out.eat _).ok (by omega)) (by simp [Pq.wAll])).mono ?_
          rintro e w9 ⟨rfl, h9, g9⟩
          have H9 := hide h9
          have Q9 := Q8.trans g9
          clear h9 g9
          rw [← HF2.out] at H9
          generalize Pk.frameS s.data.toList v = u at *
          go_wp2_with fail
          refine (glued_any H9.out [41] (LFR.out.ok (by omega)) (by simp)).mono ?_
          rintro e w10 ⟨rfl, h10, g10⟩
          have H10 := hide h10
          have Q10 := Q9.trans g10
          clear h10 g10
          go_wp2
          go_end0
          rw [HE.out]
          exact ⟨rfl, H10.out, Q10⟩
        · have q1' : ((nxt s.data.toList v.a 4 : Int) == 1) = false := by rw [beq_eq_false_iff_ne]; omega
          have HQ1 := hide q1
          clear q1
          go_wp2_with fail
          refine (next_any H8.out 4 (by omega) (by omega)).mono ?_
          rintro e w9 ⟨rfl, h9, g9⟩
          have H9 := hide h9
          have Q9 := Q8.trans g9
          clear h9 g9
          by_cases q2 : nxt s.data.toList (v.eat s.data.toList).a 4 = 1
          · have q2' : ((nxt s.data.toList (v.eat s.data.toList).a 4 : Int) == 1) = true := by rw [q2]; rfl
            have HF2 : Hid (Pk.frameS s.data.toList v = Pk.wordS s.data.toList Pq.wPeers ((v.eat s.data.toList).eat s.data.toList)) := by show _ = _; rw [HFR.out, if_neg HQ1.out, if_pos q2]
            clear q2 HFR
            go_wp2_with fail
            refine (word_any H9.out Pq.wPeers (((LC.out.eat _).eat _).ok (by omega)) (by simp [Pq.wPeers])).mono ?_
            rintro e w10 ⟨rfl, h10, g10⟩
            have H10 := hide h10
            have Q10 := Q9.trans g10
            clear h10 g10
            rw [← HF2.out] at H10
            generalize Pk.frameS s.data.toList v = u at *
            go_wp2_with fail
            refine (glued_any H10.out [41] (LFR.out.ok (by omega)) (by simp)).mono ?_
            rintro e w11 ⟨rfl, h11, g11⟩
            have H11 := hide h11
            have Q11 := Q10.trans g11
            clear h11 g11
            go_wp2
            go_end0
            rw [HE.out]
            exact ⟨rfl, H11.out, Q11⟩
          · have q2' : ((nxt s.data.toList (v.eat s.data.toList).a 4 : Int) == 1) = false := by rw [beq_eq_false_iff_ne]; omega
            have HQ2 := hide q2
            clear q2
            go_wp2_with fail
            refine (next_any H9.out 4 (by omega) (by omega)).mono ?_
            rintro e w10 ⟨rfl, h10, g10⟩
            have H10 := hide h10
            have Q10 := Q9.trans g10
            clear h10 g10
            by_cases q3 : nxt s.data.toList ((v.eat s.data.toList).eat s.data.toList).a 4 = 1
            · have q3' : ((nxt s.data.toList ((v.eat s.data.toList).eat s.data.toList).a 4 : Int) == 1) = true := by rw [q3]; rfl
              have HF2 : Hid (Pk.frameS s.data.toList v = Pk.nearS s.data.toList (((v.eat s.data.toList).eat s.data.toList).eat s.data.toList)) := by show _ = _; rw [HFR.out, if_neg HQ1.out, if_neg HQ2.out, if_pos q3]
              have LV3 := hide (((LC.out.eat s.data.toList).eat s.data.toList).eat s.data.toList)
              clear q3 HFR
              generalize ((v.eat s.data.toList).eat s.data.toList).eat s.data.toList = v3 at *
              go_wp2_with fail
              refine (word_any H10.out Pq.wNear (LV3.out.ok (by omega)) (by simp [Pq.wNear])).mono ?_
              rintro e w11 ⟨rfl, h11, g11⟩
              have H11 := hide h11
              have Q11 := Q10.trans g11
              clear h11 g11
              have LW := hide (LV3.out.word s.data.toList Pq.wNear (k := 4) (by simp [Pq.wNear]))
              have HNR : Hid (Pk.nearS s.data.toList v3 = Pk.numberS s.data.toList (nxt s.data.toList (Pk.wordS s.data.toList Pq.wNear v3).a 20) true ((Pk.wordS s.data.toList Pq.wNear v3).eat s.data.toList)) := hide rfl
              generalize Pk.wordS s.data.toList Pq.wNear v3 = v4 at *
              go_wp2_with fail
              refine (next_any H11.out 20 (by omega) (by omega)).mono ?_
              rintro e w12 ⟨rfl, h12, g12⟩
              have H12 := hide h12
              have Q12 := Q11.trans g12
              clear h12 g12
              have hn20 := Pk.nxt_lt s.data.toList v4.a 20 (by omega)
              go_wp2_with fail
              refine (knumber_any H12.out (nxt s.data.toList v4.a 20 : Nat) true ((LW.out.eat _).ok (by omega)) (by omega) (by omega)).mono ?_
              rintro e w13 ⟨rfl, h13, g13⟩
              have H13 := hide h13
              have Q13 := Q12.trans g13
              clear h13 g13
              have H14 : Hid (TF w13 bf bt s (Pk.frameS s.data.toList v)) := by rw [HF2.out, HNR.out]; exact H13
              have Q14 := Q13
              clear H13 Q13
              generalize Pk.frameS s.data.toList v = u at *
              generalize w13 = w14 at *
              go_wp2_with fail
              refine (glued_any H14.out [41] (LFR.out.ok (by omega)) (by simp)).mono ?_
              rintro e w15 ⟨rfl, h15, g15⟩
              have H15 := hide h15
              have Q15 := Q14.trans g15
              clear h15 g15
              go_wp2
              go_end0
              rw [HE.out]
              exact ⟨rfl, H15.out, Q15⟩
            · have q3' : ((nxt s.data.toList ((v.eat s.data.toList).eat s.data.toList).a 4 : Int) == 1) = false := by rw [beq_eq_false_iff_ne]; omega
              have HF2 : Hid (Pk.frameS s.data.toList v = Pk.edgeS s.data.toList (Pk.wordS s.data.toList Pq.wTo (Pk.edgeS s.data.toList (((v.eat s.data.toList).eat s.data.toList).eat s.data.toList)))) := by show _ = _; rw [HFR.out, if_neg HQ1.out, if_neg HQ2.out, if_neg q3]; rfl
              have LV3 := hide (((LC.out.eat s.data.toList).eat s.data.toList).eat s.data.toList)
              clear q3 HFR
              generalize ((v.eat s.data.toList).eat s.data.toList).eat s.data.toList = v3 at *
              go_wp2_with fail
              refine (kedge_any H10.out (LV3.out.mono (by omega))).mono ?_
              rintro e w11 ⟨rfl, h11, g11⟩
              have H11 := hide h11
              have Q11 := Q10.trans g11
              clear h11 g11
              have LW := hide (LV3.out.edge s.data.toList)
              generalize Pk.edgeS s.data.toList v3 = v4 at *
              go_wp2_with fail
              refine (word_any H11.out Pq.wTo (LW.out.ok (by omega)) (by simp [Pq.wTo])).mono ?_
              rintro e w12 ⟨rfl, h12, g12⟩
              have H12 := hide h12
              have Q12 := Q11.trans g12
              clear h12 g12
              have LX := hide (LW.out.word s.data.toList Pq.wTo (k := 2) (by simp [Pq.wTo]))
              generalize Pk.wordS s.data.toList Pq.wTo v4 = v5 at *
              go_wp2_with fail
              refine (kedge_any H12.out (LX.out.mono (by omega))).mono ?_
              rintro e w13 ⟨rfl, h13, g13⟩
              have H13 := hide h13
              have Q13 := Q12.trans g13
              clear h13 g13
              rw [← HF2.out] at H13
              generalize Pk.frameS s.data.toList v = u at *
              go_wp2_with fail
              refine (glued_any H13.out [41] (LFR.out.ok (by omega)) (by simp)).mono ?_
              rintro e w14 ⟨rfl, h14, g14⟩
              have H14 := hide h14
              have Q14 := Q13.trans g14
              clear h14 g14
              go_wp2
              go_end0
              rw [HE.out]
              exact ⟨rfl, H14.out, Q14⟩
end Go.Proofs.YtcoofnhdbejnpaaGreatDoor

