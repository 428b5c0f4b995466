/- Package paneskeep: values. -/
import Derived.Test.YtcoofnhdbejnpaaGreatDoorG12
import Derived.Test.YtcoofnhdbejnpaaGreatDoorG20
import Derived.StillTailTactics
import Derived.Test.YtcoofnhdbejnpaaGreatDoorG17
namespace Go.Proofs.YtcoofnhdbejnpaaGreatDoor
open Go.RowKit
theorem scan_bd : ∀ (l : Pq.Bytes) (st : Int × Int), st.1 - l.length ≤ (l.foldl Pk.scanC st).1 ∧ (l.foldl Pk.scanC st).1 ≤ st.1 + l.length ∧ st.2 ≤ (l.foldl Pk.scanC st).2 ∧ (l.foldl Pk.scanC st).2 ≤ st.2 + l.length
  | [], st => by simp
  | c :: l, st => by
    have ih := scan_bd l (Pk.scanC st c)
    rw [List.foldl_cons, List.length_cons]
    have h : st.1 - 1 ≤ (Pk.scanC st c).1 ∧ (Pk.scanC st c).1 ≤ st.1 + 1 ∧ st.2 ≤ (Pk.scanC st c).2 ∧ (Pk.scanC st c).2 ≤ st.2 + 1 := by
      unfold Pk.scanC
      split
      · simp only []; omega
      · split
        · simp only []; omega
        · split
          · simp only []; omega
          · omega
    omega
theorem u8_eq (c : UInt8) (n : Nat) (hn : n < 256) : (((c.toNat : Int) == (n : Int)) = true ↔ c = UInt8.ofNat n) := by
  constructor
  · intro h
    have h1 : (c.toNat : Int) = (n : Int) := by simpa using h
    have h2 : c.toNat = n := by omega
    rw [← h2]; simp
  · intro h
    rw [h]
    simp [Nat.mod_eq_of_lt hn]
theorem ext_show {s : ByteArray} {pre post : Pq.Bytes} (h : s.data.toList = pre ++ ([115, 104, 111, 119] ++ post)) (hw : (119 : UInt8) ∉ post) (k : Nat) : (((s.extract k (k + 4)).toList == [115, 104, 111, 119]) = true → k ≤ pre.length) ∧ (((s.extract k (k + 4)).toList == [115, 104, 111, 119]) = false → k ≠ pre.length) := by
  have e0 : (s.extract k (k + 4)).toList = ((pre ++ ([115, 104, 111, 119] ++ post)).take (k + 4)).drop k := by
    rw [ByteArray.toList_eq, extract_eq, h]
  rw [e0]
  refine ⟨fun e => ?_, fun e hk => ?_⟩
  · refine Classical.byContradiction fun hk => hw ?_
    have e2 : ((pre ++ ([115, 104, 111, 119] ++ post)).take (k + 4)).drop k = [115, 104, 111, 119] := by simpa using e
    have h3 : (((pre ++ ([115, 104, 111, 119] ++ post)).take (k + 4)).drop k)[3]? = some 119 := by rw [e2]; rfl
    rw [List.getElem?_drop, List.getElem?_take] at h3
    rw [if_pos (by omega), List.getElem?_append_right (by omega), List.getElem?_append_right (by simp; omega)] at h3
    exact List.mem_of_getElem? h3
  · subst hk
    have e2 : ((pre ++ ([115, 104, 111, 119] ++ post)).take (pre.length + 4)).drop pre.length = [115, 104, 111, 119] := by
      rw [List.drop_take, List.drop_left]
      simp
    rw [e2] at e
    revert e; decide
/-- what is counted from show on, up to here -/
def scanTo (post : Pq.Bytes) (j : Nat) : Int × Int := ((([115, 104, 111, 119] : Pq.Bytes) ++ post).take j).foldl Pk.scanC (0, 1)
theorem scanTo_succ {s : ByteArray} {pre post : Pq.Bytes} (h : s.data.toList = pre ++ ([115, 104, 111, 119] ++ post)) (k : Nat) (hk : k < s.size) (hp : pre.length ≤ k) : scanTo post (k + 1 - pre.length) = Pk.scanC (scanTo post (k - pre.length)) s[k] := by
  have hlen : s.size = pre.length + (4 + post.length) := by
    have e := congrArg List.length h
    simp at e
    omega
  have hj : k - pre.length < (([115, 104, 111, 119] : Pq.Bytes) ++ post).length := by simp; omega
  have e1 : k + 1 - pre.length = (k - pre.length) + 1 := by omega
  unfold scanTo
  rw [e1, List.take_succ_eq_append_getElem hj, List.foldl_append]
  have e2 : (([115, 104, 111, 119] : Pq.Bytes) ++ post)[k - pre.length] = s[k] := by
    have h1 : s[k] = s.data.toList[k]'(by simpa using hk) := by
      show s.data[k] = _
      simp
    rw [h1]
    simp only [h]
    rw [List.getElem_append_right hp]
  rw [e2]
  rfl
theorem scanTo_end (post : Pq.Bytes) {j : Nat} (hj : 4 + post.length ≤ j) : scanTo post j = post.foldl Pk.scanC (0, 1) := by
  unfold scanTo
  rw [List.take_of_length_le (by simp; omega), List.foldl_append]
  rfl
theorem scanTo_bd (post : Pq.Bytes) (j : Nat) (h : post.length ≤ 300) : -400 ≤ (scanTo post j).1 ∧ (scanTo post j).1 ≤ 400 ∧ 0 ≤ (scanTo post j).2 ∧ (scanTo post j).2 ≤ 400 := by
  have := scan_bd ((([115, 104, 111, 119] : Pq.Bytes) ++ post).take j) (0, 1)
  unfold scanTo
  have hl : ((([115, 104, 111, 119] : Pq.Bytes) ++ post).take j).length ≤ 304 := by
    rw [List.length_take]; simp; omega
  simp only [] at this
  omega
set_option maxRecDepth 100000 in
set_option maxHeartbeats 2000000 in
theorem values_any {s : ByteArray} {pre post : Pq.Bytes} (h : s.data.toList = pre ++ ([115, 104, 111, 119] ++ post)) (hw : (119 : UInt8) ∉ post) (hl : s.size ≤ 300) (w : World) :
    Calls Tryz.prog 23 #[.string s] w fun e w' => e = .returned (.int .i64 (post.foldl Pk.scanC (0, 1)).2) ∧ w' = w := by
  have hsz : s.size = pre.length + 4 + post.length := by
    have e := congrArg List.length h
    simp at e
    omega
  have HS := hide (ext_show h hw)
  have HH := hide h
  clear h hw
  go_enter Tryz.func23, Tryz.ntmps23
  go_wp2
  go_loop [5, 6] (fun v i => ∃ k a : Nat, k ≤ s.size ∧ a ≤ s.size ∧ i = .int .i64 k ∧ v = .int .i64 a ∧ (pre.length < k → a = pre.length)) (fun _ i => s.size - (intOf i).toNat)
  case atStart => exact ⟨0, 0, by omega, by omega, rfl, rfl, fun h => by omega⟩
  case round =>
    obtain ⟨k, a, hk, ha, rfl, rfl, hka⟩ := hrel
    by_cases hlt : k + 4 ≤ s.size
    · have hlt' : (k : Int) + 4 ≤ (s.size : Int) := by omega
      obtain ⟨hx1, hx2⟩ := HS.out k
      cases hz : ((s.extract k (k + 4)).toList == [115, 104, 111, 119])
      · have hne := hx2 hz
        clear hx1 hx2
        go_wp2
        go_round
        case rel => exact ⟨k + 1, a, by omega, by omega, by go_num, rfl, fun h => hka (by omega)⟩
        case measure => simp [intOf]; omega
      · have hle := hx1 hz
        clear hx1 hx2
        go_wp2
        go_round
        case rel => exact ⟨k + 1, k, by omega, by omega, by go_num, rfl, fun h => by omega⟩
        case measure => simp [intOf]; omega
    · have hlt' : ¬ (k : Int) + 4 ≤ (s.size : Int) := by omega
      obtain rfl := hka (by omega)
      go_wp2
      go_loop [3, 4, 7] (fun n o i => ∃ k : Nat, pre.length ≤ k ∧ k ≤ s.size ∧ i = .int .i64 k ∧ n = .int .i64 (scanTo post (k - pre.length)).2 ∧ o = .int .i64 (scanTo post (k - pre.length)).1) (fun _ _ i => s.size - (intOf i).toNat)
      case atStart => exact ⟨pre.length, by omega, by omega, rfl, by rw [Nat.sub_self]; rfl, by rw [Nat.sub_self]; rfl⟩
      case round =>
        obtain ⟨k2, hk2, hk3, rfl, rfl, rfl⟩ := hrel
        have HBD := scanTo_bd post (k2 - pre.length) (by omega)
        by_cases hlt2 : k2 < s.size
        · have hlt2' : (k2 : Int) < (s.size : Int) := by omega
          have HST := hide (scanTo_succ HH.out k2 hlt2 hk2)
          generalize scanTo post (k2 - pre.length) = st at *
          obtain ⟨o, n⟩ := st
          simp only [] at HBD
          by_cases h40 : s[k2] = 40
          · have q1 : ((s[k2].toNat : Int) == 40) = true := by rw [h40]; rfl
            have HS2 : Hid (scanTo post (k2 + 1 - pre.length) = (o + 1, n)) := by show _ = _; rw [HST.out]; unfold Pk.scanC; rw [if_pos h40]
            go_wp2
            go_round
            case rel => exact ⟨k2 + 1, by omega, by omega, by go_num, by rw [HS2.out], by rw [HS2.out]⟩
            case measure => simp [intOf]; omega
          · have q1 : ((s[k2].toNat : Int) == 40) = false := by
              rw [Bool.eq_false_iff]; intro q; exact h40 ((u8_eq s[k2] 40 (by omega)).1 q)
            by_cases h41 : s[k2] = 41
            · have q2 : ((s[k2].toNat : Int) == 41) = true := by rw [h41]; rfl
              have HS2 : Hid (scanTo post (k2 + 1 - pre.length) = (o - 1, n)) := by show _ = _; rw [HST.out]; unfold Pk.scanC; rw [if_neg h40, if_pos h41]
              go_wp2
              go_round
              case rel => exact ⟨k2 + 1, by omega, by omega, by go_num, by rw [HS2.out], by rw [HS2.out]⟩
              case measure => simp [intOf]; omega
            · have q2 : ((s[k2].toNat : Int) == 41) = false := by
                rw [Bool.eq_false_iff]; intro q; exact h41 ((u8_eq s[k2] 41 (by omega)).1 q)
              by_cases h44 : s[k2] = 44
              · have q3 : ((s[k2].toNat : Int) == 44) = true := by rw [h44]; rfl
                by_cases ho : o = 0
                · subst ho
                  have HS2 : Hid (scanTo post (k2 + 1 - pre.length) = (0, n + 1)) := by show _ = _; rw [HST.out]; unfold Pk.scanC; rw [if_neg h40, if_neg h41, if_pos ⟨h44, rfl⟩]
                  go_wp2
                  go_round
                  case rel => exact ⟨k2 + 1, by omega, by omega, by go_num, by rw [HS2.out], by rw [HS2.out]⟩
                  case measure => simp [intOf]; omega
                · have q4 : (o == 0) = false := by simp [ho]
                  have HS2 : Hid (scanTo post (k2 + 1 - pre.length) = (o, n)) := by show _ = _; rw [HST.out]; unfold Pk.scanC; rw [if_neg h40, if_neg h41, if_neg (fun q => ho q.2)]
                  go_wp2
                  go_round
                  case rel => exact ⟨k2 + 1, by omega, by omega, by go_num, by rw [HS2.out], by rw [HS2.out]⟩
                  case measure => simp [intOf]; omega
              · have q3 : ((s[k2].toNat : Int) == 44) = false := by
                  rw [Bool.eq_false_iff]; intro q; exact h44 ((u8_eq s[k2] 44 (by omega)).1 q)
                have HS2 : Hid (scanTo post (k2 + 1 - pre.length) = (o, n)) := by show _ = _; rw [HST.out]; unfold Pk.scanC; rw [if_neg h40, if_neg h41, if_neg (fun q => h44 q.1)]
                go_wp2
                go_round
                case rel => exact ⟨k2 + 1, by omega, by omega, by go_num, by rw [HS2.out], by rw [HS2.out]⟩
                case measure => simp [intOf]; omega
        · have hlt2' : ¬ (k2 : Int) < (s.size : Int) := by omega
          have HSE := hide (scanTo_end post (j := k2 - pre.length) (by omega))
          go_wp2
          go_ret
          exact ⟨by rw [← HSE.out]; rfl, rfl⟩
end Go.Proofs.YtcoofnhdbejnpaaGreatDoor

/- Package paneskeep: numbers. -/
namespace Go.Proofs.YtcoofnhdbejnpaaGreatDoor
open Go.RowKit
open Pk (TS nxt adv)
set_option maxRecDepth 100000 in
set_option maxHeartbeats 4000000 in
theorem knumber_any {w : World} {bf bt : Nat} {s : ByteArray} {x : TS} (h : TF w bf bt s x) (n : Int) (b : Bool) (hx : LenOk x) (h0 : 0 ≤ n) (h1 : n < 100) :
    Calls Tryz.prog 56 #[.pointer (some ⟨bt, 0, none⟩), .pointer (some ⟨bf, 0, none⟩), .int .i64 n, .bool b] w fun e w' => e = .returned (.tuple #[]) ∧ TF w' bf bt s (Pk.numberS s.data.toList n.toNat b x) ∧ G2 bf bt w w' := by
  have H := hide h
  obtain ⟨c0, c1, c2, c3⟩ := h.cells
  obtain ⟨z0, z1, z2⟩ := h.free
  obtain ⟨l1, l2⟩ := hx
  have hne := h.ne
  have hne' := h.ne.symm
  have hl := Pq.numTxt_len n
  clear h
  have hnn : ((n.toNat : Nat) : Int) = n := by omega
  have HNN := hide hnn
  clear hnn
  cases b
  · by_cases h10 : n < 10
    · have H10 : Hid (n.toNat < 10) := by show _ < _; omega
      by_cases hq : nxt s.data.toList x.a 3 = 1
      · have hq' : ((nxt s.data.toList x.a 3 : Int) == 1) = true := by rw [hq]; rfl
        have HNS : Hid (Pk.numberS s.data.toList n.toNat false x = ⟨adv s.data.toList x.a, x.raw ++ [48] ++ Pq.numTxt n, x.plain ++ Pq.numTxt n⟩) := by show _ = _; simp [Pk.numberS, Pk.nought, Pk.blankB, H10.out, hq, HNN.out]
        clear hq
        go_enter Tryz.func56, Tryz.ntmps56
        go_wp2_with fail
        have H0 := H
        have G0 := G2.refl bf bt w
        refine (next_any H0.out 3 (by omega) (by omega)).mono ?_
        rintro e w1 ⟨rfl, h1, g1⟩
        have H1 : Hid (TF w1 bf bt s ⟨adv s.data.toList x.a, x.raw, x.plain⟩) := h1
        have G1 := G0.trans g1
        clear h1 g1 c0 c1 c2 c3 z0 z1 z2 H0 G0
        obtain ⟨c0, c1, c2, c3⟩ := H1.out.cells
        obtain ⟨z0, z1, z2⟩ := H1.out.free
        go_wp2_with fail
        have H2 := hide ((H1.out.setRaw (⟨(x.raw).toArray⟩ ++ ⟨#[48]⟩)).is (show _ = (⟨adv s.data.toList x.a, x.raw ++ [48], x.plain⟩ : TS) by simp))
        have G2' := G1.setT 0 (.string (⟨(x.raw).toArray⟩ ++ ⟨#[48]⟩))
        have G3 := G2'
        have H3 := H2
        clear c0 c1 c2 c3 z0 z1 z2 G2' H2
        generalize w1.setCell ⟨bt, 0, none⟩ (.string (⟨(x.raw).toArray⟩ ++ ⟨#[48]⟩)) = w3 at *
        have m1 : (x.raw ++ [48]).length ≤ 1000010 := by simp; omega
        have m2 : (x.plain).length ≤ 1000010 := by omega
        obtain ⟨c0, c1, c2, c3⟩ := H3.out.cells
        obtain ⟨z0, z1, z2⟩ := H3.out.free
        simp only [] at c2 c3
        go_still_tail 8, (by kernel_rfl)
        still_call ((itoa_any n h0 h1 _).mono (by rintro e w4 ⟨rfl, rfl⟩; exact ⟨rfl, rfl⟩))
        refine wpStill_step (fun K hK => ?_)
        go_simp
        rw [if_neg (by omega)]
        refine ⟨rfl, hK _ ?_⟩
        clear hK K
        refine wpStill_nil ?_
        all_goals
          go_wp2_with fail
          have H4 := hide (((H3.out.setRaw (⟨(x.raw ++ [48]).toArray⟩ ++ ⟨(Pq.numTxt n).toArray⟩)).drew).is (show _ = (⟨(adv s.data.toList x.a), x.raw ++ [48] ++ Pq.numTxt n, x.plain⟩ : TS) by simp))
          have G4 := (G3.setT 0 (.string (⟨(x.raw ++ [48]).toArray⟩ ++ ⟨(Pq.numTxt n).toArray⟩))).drew
          clear c0 c1 c2 c3 z0 z1 z2 H3 G3
          generalize (w3.setCell ⟨bt, 0, none⟩ (.string (⟨(x.raw ++ [48]).toArray⟩ ++ ⟨(Pq.numTxt n).toArray⟩))).drew = w5 at *
          obtain ⟨c0, c1, c2, c3⟩ := H4.out.cells
          obtain ⟨z0, z1, z2⟩ := H4.out.free
          simp only [] at c2 c3
          go_still_tail 8, (by kernel_rfl)
          still_call ((itoa_any n h0 h1 _).mono (by rintro e w4 ⟨rfl, rfl⟩; exact ⟨rfl, rfl⟩))
          refine wpStill_step (fun K hK => ?_)
          go_simp
          rw [if_neg (by omega)]
          refine ⟨rfl, hK _ ?_⟩
          clear hK K
          refine wpStill_nil ?_
          all_goals
            go_wp2
            go_end0
            refine ⟨rfl, ((H4.out.setPlain _).drew).is ?_, (G4.setT _ _).drew⟩
            rw [HNS.out]; simp
      · have hq' : ((nxt s.data.toList x.a 3 : Int) == 1) = false := by rw [beq_eq_false_iff_ne]; omega
        have HNS : Hid (Pk.numberS s.data.toList n.toNat false x = ⟨adv s.data.toList x.a, x.raw ++ Pq.numTxt n, x.plain ++ Pq.numTxt n⟩) := by show _ = _; simp [Pk.numberS, Pk.nought, Pk.blankB, H10.out, hq, HNN.out]
        clear hq
        go_enter Tryz.func56, Tryz.ntmps56
        go_wp2_with fail
        have H0 := H
        have G0 := G2.refl bf bt w
        refine (next_any H0.out 3 (by omega) (by omega)).mono ?_
        rintro e w1 ⟨rfl, h1, g1⟩
        have H1 : Hid (TF w1 bf bt s ⟨adv s.data.toList x.a, x.raw, x.plain⟩) := h1
        have G1 := G0.trans g1
        clear h1 g1 c0 c1 c2 c3 z0 z1 z2 H0 G0
        obtain ⟨c0, c1, c2, c3⟩ := H1.out.cells
        obtain ⟨z0, z1, z2⟩ := H1.out.free
        go_wp2_with fail
        have H2 := H1
        have G2' := G1
        have G3 := G2'
        have H3 := H2
        clear c0 c1 c2 c3 z0 z1 z2 G2' H2
        have m1 : (x.raw).length ≤ 1000010 := by omega
        have m2 : (x.plain).length ≤ 1000010 := by omega
        obtain ⟨c0, c1, c2, c3⟩ := H3.out.cells
        obtain ⟨z0, z1, z2⟩ := H3.out.free
        simp only [] at c2 c3
        go_still_tail 8, (by kernel_rfl)
        still_call ((itoa_any n h0 h1 _).mono (by rintro e w4 ⟨rfl, rfl⟩; exact ⟨rfl, rfl⟩))
        refine wpStill_step (fun K hK => ?_)
        go_simp
        rw [if_neg (by omega)]
        refine ⟨rfl, hK _ ?_⟩
        clear hK K
        refine wpStill_nil ?_
        all_goals
          go_wp2_with fail
          have H4 := hide (((H3.out.setRaw (⟨(x.raw).toArray⟩ ++ ⟨(Pq.numTxt n).toArray⟩)).drew).is (show _ = (⟨(adv s.data.toList x.a), x.raw ++ Pq.numTxt n, x.plain⟩ : TS) by simp))
          have G4 := (G3.setT 0 (.string (⟨(x.raw).toArray⟩ ++ ⟨(Pq.numTxt n).toArray⟩))).drew
          clear c0 c1 c2 c3 z0 z1 z2 H3 G3
          generalize (w1.setCell ⟨bt, 0, none⟩ (.string (⟨(x.raw).toArray⟩ ++ ⟨(Pq.numTxt n).toArray⟩))).drew = w5 at *
          obtain ⟨c0, c1, c2, c3⟩ := H4.out.cells
          obtain ⟨z0, z1, z2⟩ := H4.out.free
          simp only [] at c2 c3
          go_still_tail 8, (by kernel_rfl)
          still_call ((itoa_any n h0 h1 _).mono (by rintro e w4 ⟨rfl, rfl⟩; exact ⟨rfl, rfl⟩))
          refine wpStill_step (fun K hK => ?_)
          go_simp
          rw [if_neg (by omega)]
          refine ⟨rfl, hK _ ?_⟩
          clear hK K
          refine wpStill_nil ?_
          all_goals
            go_wp2
            go_end0
            refine ⟨rfl, ((H4.out.setPlain _).drew).is ?_, (G4.setT _ _).drew⟩
            rw [HNS.out]; simp
    · have H10 : Hid (¬ n.toNat < 10) := by show ¬ _; omega
      have HNS : Hid (Pk.numberS s.data.toList n.toNat false x = ⟨x.a, x.raw ++ Pq.numTxt n, x.plain ++ Pq.numTxt n⟩) := by show _ = _; simp [Pk.numberS, Pk.nought, Pk.blankB, H10.out, HNN.out]
      go_enter Tryz.func56, Tryz.ntmps56
      go_wp2_with fail
      have H2 : Hid (TF w bf bt s ⟨x.a, x.raw, x.plain⟩) := H
      have G2' := G2.refl bf bt w
      have G3 := G2'
      have H3 := H2
      clear c0 c1 c2 c3 z0 z1 z2 G2' H2
      have m1 : (x.raw).length ≤ 1000010 := by omega
      have m2 : (x.plain).length ≤ 1000010 := by omega
      obtain ⟨c0, c1, c2, c3⟩ := H3.out.cells
      obtain ⟨z0, z1, z2⟩ := H3.out.free
      simp only [] at c2 c3
      go_still_tail 8, (by kernel_rfl)
      still_call ((itoa_any n h0 h1 _).mono (by rintro e w4 ⟨rfl, rfl⟩; exact ⟨rfl, rfl⟩))
      refine wpStill_step (fun K hK => ?_)
      go_simp
      rw [if_neg (by omega)]
      refine ⟨rfl, hK _ ?_⟩
      clear hK K
      refine wpStill_nil ?_
      all_goals
        go_wp2_with fail
        have H4 := hide (((H3.out.setRaw (⟨(x.raw).toArray⟩ ++ ⟨(Pq.numTxt n).toArray⟩)).drew).is (show _ = (⟨x.a, x.raw ++ Pq.numTxt n, x.plain⟩ : TS) by simp))
        have G4 := (G3.setT 0 (.string (⟨(x.raw).toArray⟩ ++ ⟨(Pq.numTxt n).toArray⟩))).drew
        clear c0 c1 c2 c3 z0 z1 z2 H3 G3
        generalize (w.setCell ⟨bt, 0, none⟩ (.string (⟨(x.raw).toArray⟩ ++ ⟨(Pq.numTxt n).toArray⟩))).drew = w5 at *
        obtain ⟨c0, c1, c2, c3⟩ := H4.out.cells
        obtain ⟨z0, z1, z2⟩ := H4.out.free
        simp only [] at c2 c3
        go_still_tail 8, (by kernel_rfl)
        still_call ((itoa_any n h0 h1 _).mono (by rintro e w4 ⟨rfl, rfl⟩; exact ⟨rfl, rfl⟩))
        refine wpStill_step (fun K hK => ?_)
        go_simp
        rw [if_neg (by omega)]
        refine ⟨rfl, hK _ ?_⟩
        clear hK K
        refine wpStill_nil ?_
        all_goals
          go_wp2
          go_end0
          refine ⟨rfl, ((H4.out.setPlain _).drew).is ?_, (G4.setT _ _).drew⟩
          rw [HNS.out]; simp
  · by_cases h10 : n < 10
    · have H10 : Hid (n.toNat < 10) := by show _ < _; omega
      by_cases hq : nxt s.data.toList x.a 3 = 1
      · have hq' : ((nxt s.data.toList x.a 3 : Int) == 1) = true := by rw [hq]; rfl
        have HNS : Hid (Pk.numberS s.data.toList n.toNat true x = ⟨adv s.data.toList x.a, x.raw ++ [32] ++ [48] ++ Pq.numTxt n, x.plain ++ [32] ++ Pq.numTxt n⟩) := by show _ = _; simp [Pk.numberS, Pk.nought, Pk.blankB, H10.out, hq, HNN.out]
        clear hq
        go_enter Tryz.func56, Tryz.ntmps56
        go_wp2_with fail
        have H0 := hide (((H.out.setRaw (⟨x.raw.toArray⟩ ++ ⟨#[32]⟩)).setPlain (⟨x.plain.toArray⟩ ++ ⟨#[32]⟩)).is (show _ = (⟨x.a, x.raw ++ [32], x.plain ++ [32]⟩ : TS) by simp))
        have G0 := ((G2.refl bf bt w).setT 0 (.string (⟨x.raw.toArray⟩ ++ ⟨#[32]⟩))).setT 1 (.string (⟨x.plain.toArray⟩ ++ ⟨#[32]⟩))
        refine (next_any H0.out 3 (by omega) (by omega)).mono ?_
        rintro e w1 ⟨rfl, h1, g1⟩
        have H1 : Hid (TF w1 bf bt s ⟨adv s.data.toList x.a, x.raw ++ [32], x.plain ++ [32]⟩) := h1
        have G1 := G0.trans g1
        clear h1 g1 c0 c1 c2 c3 z0 z1 z2 H0 G0
        obtain ⟨c0, c1, c2, c3⟩ := H1.out.cells
        obtain ⟨z0, z1, z2⟩ := H1.out.free
        go_wp2_with fail
        have H2 := hide ((H1.out.setRaw (⟨(x.raw ++ [32]).toArray⟩ ++ ⟨#[48]⟩)).is (show _ = (⟨adv s.data.toList x.a, x.raw ++ [32, 48], x.plain ++ [32]⟩ : TS) by simp))
        have G2' := G1.setT 0 (.string (⟨(x.raw ++ [32]).toArray⟩ ++ ⟨#[48]⟩))
        have G3 := G2'
        have H3 := H2
        clear c0 c1 c2 c3 z0 z1 z2 G2' H2
        generalize w1.setCell ⟨bt, 0, none⟩ (.string (⟨(x.raw ++ [32]).toArray⟩ ++ ⟨#[48]⟩)) = w3 at *
        have m1 : (x.raw ++ [32, 48]).length ≤ 1000010 := by simp; omega
        have m2 : (x.plain ++ [32]).length ≤ 1000010 := by simp; omega
        obtain ⟨c0, c1, c2, c3⟩ := H3.out.cells
        obtain ⟨z0, z1, z2⟩ := H3.out.free
        simp only [] at c2 c3
        go_still_tail 8, (by kernel_rfl)
        still_call ((itoa_any n h0 h1 _).mono (by rintro e w4 ⟨rfl, rfl⟩; exact ⟨rfl, rfl⟩))
        refine wpStill_step (fun K hK => ?_)
        go_simp
        rw [if_neg (by omega)]
        refine ⟨rfl, hK _ ?_⟩
        clear hK K
        refine wpStill_nil ?_
        all_goals
          go_wp2_with fail
          have H4 := hide (((H3.out.setRaw (⟨(x.raw ++ [32, 48]).toArray⟩ ++ ⟨(Pq.numTxt n).toArray⟩)).drew).is (show _ = (⟨(adv s.data.toList x.a), x.raw ++ [32, 48] ++ Pq.numTxt n, x.plain ++ [32]⟩ : TS) by simp))
          have G4 := (G3.setT 0 (.string (⟨(x.raw ++ [32, 48]).toArray⟩ ++ ⟨(Pq.numTxt n).toArray⟩))).drew
          clear c0 c1 c2 c3 z0 z1 z2 H3 G3
          generalize (w3.setCell ⟨bt, 0, none⟩ (.string (⟨(x.raw ++ [32, 48]).toArray⟩ ++ ⟨(Pq.numTxt n).toArray⟩))).drew = w5 at *
          obtain ⟨c0, c1, c2, c3⟩ := H4.out.cells
          obtain ⟨z0, z1, z2⟩ := H4.out.free
          simp only [] at c2 c3
          go_still_tail 8, (by kernel_rfl)
          still_call ((itoa_any n h0 h1 _).mono (by rintro e w4 ⟨rfl, rfl⟩; exact ⟨rfl, rfl⟩))
          refine wpStill_step (fun K hK => ?_)
          go_simp
          rw [if_neg (by omega)]
          refine ⟨rfl, hK _ ?_⟩
          clear hK K
          refine wpStill_nil ?_
          all_goals
            go_wp2
            go_end0
            refine ⟨rfl, ((H4.out.setPlain _).drew).is ?_, (G4.setT _ _).drew⟩
            rw [HNS.out]; simp
      · have hq' : ((nxt s.data.toList x.a 3 : Int) == 1) = false := by rw [beq_eq_false_iff_ne]; omega
        have HNS : Hid (Pk.numberS s.data.toList n.toNat true x = ⟨adv s.data.toList x.a, x.raw ++ [32] ++ Pq.numTxt n, x.plain ++ [32] ++ Pq.numTxt n⟩) := by show _ = _; simp [Pk.numberS, Pk.nought, Pk.blankB, H10.out, hq, HNN.out]
        clear hq
        go_enter Tryz.func56, Tryz.ntmps56
        go_wp2_with fail
        have H0 := hide (((H.out.setRaw (⟨x.raw.toArray⟩ ++ ⟨#[32]⟩)).setPlain (⟨x.plain.toArray⟩ ++ ⟨#[32]⟩)).is (show _ = (⟨x.a, x.raw ++ [32], x.plain ++ [32]⟩ : TS) by simp))
        have G0 := ((G2.refl bf bt w).setT 0 (.string (⟨x.raw.toArray⟩ ++ ⟨#[32]⟩))).setT 1 (.string (⟨x.plain.toArray⟩ ++ ⟨#[32]⟩))
        refine (next_any H0.out 3 (by omega) (by omega)).mono ?_
        rintro e w1 ⟨rfl, h1, g1⟩
        have H1 : Hid (TF w1 bf bt s ⟨adv s.data.toList x.a, x.raw ++ [32], x.plain ++ [32]⟩) := h1
        have G1 := G0.trans g1
        clear h1 g1 c0 c1 c2 c3 z0 z1 z2 H0 G0
        obtain ⟨c0, c1, c2, c3⟩ := H1.out.cells
        obtain ⟨z0, z1, z2⟩ := H1.out.free
        go_wp2_with fail
        have H2 := H1
        have G2' := G1
        have G3 := G2'
        have H3 := H2
        clear c0 c1 c2 c3 z0 z1 z2 G2' H2
        have m1 : (x.raw ++ [32]).length ≤ 1000010 := by simp; omega
        have m2 : (x.plain ++ [32]).length ≤ 1000010 := by simp; omega
        obtain ⟨c0, c1, c2, c3⟩ := H3.out.cells
        obtain ⟨z0, z1, z2⟩ := H3.out.free
        simp only [] at c2 c3
        go_still_tail 8, (by kernel_rfl)
        still_call ((itoa_any n h0 h1 _).mono (by rintro e w4 ⟨rfl, rfl⟩; exact ⟨rfl, rfl⟩))
        refine wpStill_step (fun K hK => ?_)
        go_simp
        rw [if_neg (by omega)]
        refine ⟨rfl, hK _ ?_⟩
        clear hK K
        refine wpStill_nil ?_
        all_goals
          go_wp2_with fail
          have H4 := hide (((H3.out.setRaw (⟨(x.raw ++ [32]).toArray⟩ ++ ⟨(Pq.numTxt n).toArray⟩)).drew).is (show _ = (⟨(adv s.data.toList x.a), x.raw ++ [32] ++ Pq.numTxt n, x.plain ++ [32]⟩ : TS) by simp))
          have G4 := (G3.setT 0 (.string (⟨(x.raw ++ [32]).toArray⟩ ++ ⟨(Pq.numTxt n).toArray⟩))).drew
          clear c0 c1 c2 c3 z0 z1 z2 H3 G3
          generalize (w1.setCell ⟨bt, 0, none⟩ (.string (⟨(x.raw ++ [32]).toArray⟩ ++ ⟨(Pq.numTxt n).toArray⟩))).drew = w5 at *
          obtain ⟨c0, c1, c2, c3⟩ := H4.out.cells
          obtain ⟨z0, z1, z2⟩ := H4.out.free
          simp only [] at c2 c3
          go_still_tail 8, (by kernel_rfl)
          still_call ((itoa_any n h0 h1 _).mono (by rintro e w4 ⟨rfl, rfl⟩; exact ⟨rfl, rfl⟩))
          refine wpStill_step (fun K hK => ?_)
          go_simp
          rw [if_neg (by omega)]
          refine ⟨rfl, hK _ ?_⟩
          clear hK K
          refine wpStill_nil ?_
          all_goals
            go_wp2
            go_end0
            refine ⟨rfl, ((H4.out.setPlain _).drew).is ?_, (G4.setT _ _).drew⟩
            rw [HNS.out]; simp
    · have H10 : Hid (¬ n.toNat < 10) := by show ¬ _; omega
      have HNS : Hid (Pk.numberS s.data.toList n.toNat true x = ⟨x.a, x.raw ++ [32] ++ Pq.numTxt n, x.plain ++ [32] ++ Pq.numTxt n⟩) := by show _ = _; simp [Pk.numberS, Pk.nought, Pk.blankB, H10.out, HNN.out]
      go_enter Tryz.func56, Tryz.ntmps56
      go_wp2_with fail
      have H2 := hide (((H.out.setRaw (⟨x.raw.toArray⟩ ++ ⟨#[32]⟩)).setPlain (⟨x.plain.toArray⟩ ++ ⟨#[32]⟩)).is (show _ = (⟨x.a, x.raw ++ [32], x.plain ++ [32]⟩ : TS) by simp))
      have G2' := ((G2.refl bf bt w).setT 0 (.string (⟨x.raw.toArray⟩ ++ ⟨#[32]⟩))).setT 1 (.string (⟨x.plain.toArray⟩ ++ ⟨#[32]⟩))
      have G3 := G2'
      have H3 := H2
      clear c0 c1 c2 c3 z0 z1 z2 G2' H2
      generalize (w.setCell ⟨bt, 0, none⟩ (.string (⟨x.raw.toArray⟩ ++ ⟨#[32]⟩))).setCell ⟨bt, 1, none⟩ (.string (⟨x.plain.toArray⟩ ++ ⟨#[32]⟩)) = w3 at *
      have m1 : (x.raw ++ [32]).length ≤ 1000010 := by simp; omega
      have m2 : (x.plain ++ [32]).length ≤ 1000010 := by simp; omega
      obtain ⟨c0, c1, c2, c3⟩ := H3.out.cells
      obtain ⟨z0, z1, z2⟩ := H3.out.free
      simp only [] at c2 c3
      go_still_tail 8, (by kernel_rfl)
      still_call ((itoa_any n h0 h1 _).mono (by rintro e w4 ⟨rfl, rfl⟩; exact ⟨rfl, rfl⟩))
      refine wpStill_step (fun K hK => ?_)
      go_simp
      rw [if_neg (by omega)]
      refine ⟨rfl, hK _ ?_⟩
      clear hK K
      refine wpStill_nil ?_
      all_goals
        go_wp2_with fail
        have H4 := hide (((H3.out.setRaw (⟨(x.raw ++ [32]).toArray⟩ ++ ⟨(Pq.numTxt n).toArray⟩)).drew).is (show _ = (⟨x.a, x.raw ++ [32] ++ Pq.numTxt n, x.plain ++ [32]⟩ : TS) by simp))
        have G4 := (G3.setT 0 (.string (⟨(x.raw ++ [32]).toArray⟩ ++ ⟨(Pq.numTxt n).toArray⟩))).drew
        clear c0 c1 c2 c3 z0 z1 z2 H3 G3
        generalize (w3.setCell ⟨bt, 0, none⟩ (.string (⟨(x.raw ++ [32]).toArray⟩ ++ ⟨(Pq.numTxt n).toArray⟩))).drew = w5 at *
        obtain ⟨c0, c1, c2, c3⟩ := H4.out.cells
        obtain ⟨z0, z1, z2⟩ := H4.out.free
        simp only [] at c2 c3
        go_still_tail 8, (by kernel_rfl)
        still_call ((itoa_any n h0 h1 _).mono (by rintro e w4 ⟨rfl, rfl⟩; exact ⟨rfl, rfl⟩))
        refine wpStill_step (fun K hK => ?_)
        go_simp
        rw [if_neg (by omega)]
        refine ⟨rfl, hK _ ?_⟩
        clear hK K
        refine wpStill_nil ?_
        all_goals
          go_wp2
          go_end0
          refine ⟨rfl, ((H4.out.setPlain _).drew).is ?_, (G4.setT _ _).drew⟩
          rw [HNS.out]; simp
end Go.Proofs.YtcoofnhdbejnpaaGreatDoor

