/- Package lines: isAhead, arePeers, endsGroup. -/
import Derived.Test.YtcoofnhdbejnpaaGreatDoorG22
import Derived.Test.YtcoofnhdbejnpaaGreatDoorG23
namespace Go.Proofs.YtcoofnhdbejnpaaGreatDoor
open Go.RowKit
theorem Pv.ahead_drop (ks : List (Nat × Bool)) (a b : Pv.R3) (k : Nat) (h : k < ks.length) : Pv.aheadP (ks.drop k) a b = if Pv.colV ks[k].1 a = Pv.colV ks[k].1 b then Pv.aheadP (ks.drop (k + 1)) a b else (decide (Pv.colV ks[k].1 a < Pv.colV ks[k].1 b) != ks[k].2) := by
  rw [List.drop_eq_getElem_cons h]; rfl
theorem Pv.ahead_end (ks : List (Nat × Bool)) (a b : Pv.R3) (k : Nat) (h : ¬ k < ks.length) : Pv.aheadP (ks.drop k) a b = Pv.lower a b := by
  rw [List.drop_eq_nil_of_le (by omega)]; rfl
set_option maxRecDepth 100000 in
set_option maxHeartbeats 2000000 in
theorem lahead_any {w : World} {g o : Nat} {vk : Value} {ks : List (Nat × Bool)} (h0 : w.cell? ⟨g, o, none⟩ = some vk) (hk : RdK w vk ks) (hl : ks.length ≤ 1000) (hc : ∀ k ∈ ks, k.1 < 3) (p u v p' u' v' : Int) :
    Calls Tryz.prog 174 #[.pointer (some ⟨g, o, none⟩), .agg #[.int .i64 p, .int .i64 u, .int .i64 v], .agg #[.int .i64 p', .int .i64 u', .int .i64 v']] w fun e w' => e = .returned (.bool (Pv.aheadP ks (p, u, v) (p', u', v'))) ∧ Below w.heap.size w w' := by
  have HK := hide hk
  have H0 := hide h0
  have HC := hide hc
  obtain ⟨xk, ck, rfl⟩ := RdG.sl hk
  have hgl := cell_lt h0
  clear hk h0 hc
  go_enter Tryz.func174, Tryz.ntmps174
  go_upto_region 1 with fail
  have C0 := hide (K2.start w #[.int .i64 p, .int .i64 u, .int .i64 v] 48 #[.int .i64 p', .int .i64 u', .int .i64 v'] 48)
  generalize ((w.alloc (.cells #[.int .i64 p, .int .i64 u, .int .i64 v] 48)).alloc (.cells #[.int .i64 p', .int .i64 u', .int .i64 v'] 48)) = w0 at *
  have HX : ∀ wx, Hid (Below w0.heap.size w0 wx → Below w.heap.size w wx ∧ wx.cell? ⟨g, o, none⟩ = some (.slice xk ks.length ck) ∧ wx.cell? ⟨w.heap.size, 0, none⟩ = some (.int .i64 p) ∧ wx.cell? ⟨w.heap.size, 1, none⟩ = some (.int .i64 u) ∧ wx.cell? ⟨w.heap.size, 2, none⟩ = some (.int .i64 v) ∧ wx.cell? ⟨w.heap.size + 1, 0, none⟩ = some (.int .i64 p') ∧ wx.cell? ⟨w.heap.size + 1, 1, none⟩ = some (.int .i64 u') ∧ wx.cell? ⟨w.heap.size + 1, 2, none⟩ = some (.int .i64 v')) := fun wx hb => by
    have C1 := C0.out.below hb
    exact ⟨C1.bl, (C1.bl.cell (p := ⟨g, o, none⟩) hgl).trans H0.out, cell_of_heap C1.a 0, cell_of_heap C1.a 1, cell_of_heap C1.a 2, cell_of_heap C1.b 0, cell_of_heap C1.b 1, cell_of_heap C1.b 2⟩
  go_wp2
  go_loopw [7] (fun i wr => ∃ k : Nat, k ≤ ks.length ∧ i = .int .i64 k ∧ Below w0.heap.size w0 wr ∧ Hid (Pv.aheadP (ks.drop k) (p, u, v) (p', u', v') = Pv.aheadP ks (p, u, v) (p', u', v'))) (fun i _ => ks.length - (intOf i).toNat)
  case atStart => exact ⟨0, by omega, rfl, Below.refl _ _, rfl⟩
  case round =>
    obtain ⟨k, hk, rfl, hb, HN⟩ := hrel
    have B1 := hide hb
    clear hb
    obtain ⟨bw, q0, a0, a1, a2, b0, b1, b2⟩ := (HX _).out B1.out
    by_cases hlt : k < ks.length
    · have hlt' : (k : Int) < (ks.length : Int) := by omega
      obtain ⟨gk, ok, cap, e, _⟩ := RdG.form1 HK.out (by omega)
      cases e
      obtain ⟨c0, c1⟩ := (HK.out.below bw).cell k hlt
      have HS := hide (Pv.ahead_drop ks (p, u, v) (p', u', v') k hlt)
      have hc3 := HC.out _ (List.getElem_mem hlt)
      clear bw
      go_upto_region 4 with fail
      go_still_tail 9, (by kernel_rfl)
      go_wp2_with fail
      refine (colOf_any hc3 _ _ _ _).mono ?_
      rintro e w3 ⟨rfl, e3⟩
      replace e3 := undrew e3
      have B3 := hide (B1.out.trans (e3.mono B1.out.size))
      clear q0 a0 a1 a2 b0 b1 b2 c0 c1 e3
      obtain ⟨bw, q0, a0, a1, a2, b0, b1, b2⟩ := (HX _).out B3.out
      obtain ⟨c0, c1⟩ := (HK.out.below bw).cell k hlt
      clear bw
      generalize hx : Pv.colV ks[k].1 (p, u, v) = x at *
      clear hx
      go_upto_region 5 with fail
      go_still_tail 9, (by kernel_rfl)
      go_wp2_with fail
      refine (colOf_any hc3 _ _ _ _).mono ?_
      rintro e w4 ⟨rfl, e4⟩
      replace e4 := undrew e4
      have B4 := hide (B3.out.trans (e4.mono B3.out.size))
      clear q0 a0 a1 a2 b0 b1 b2 c0 c1 e4
      obtain ⟨bw, q0, a0, a1, a2, b0, b1, b2⟩ := (HX _).out B4.out
      obtain ⟨c0, c1⟩ := (HK.out.below bw).cell k hlt
      have BW := hide bw
      clear bw
      generalize hy : Pv.colV ks[k].1 (p', u', v') = y at *
      clear hy
      by_cases hxy : x = y
      · rw [if_pos hxy] at HS
        subst hxy
        go_wp2
        go_roundw
        case rel => exact ⟨k + 1, by omega, by go_num, B4.out, HS.out.symm.trans HN.out⟩
        case measure => simp [intOf]; omega
      · rw [if_neg hxy] at HS
        have hxy' : (x != y) = true := by simp [hxy]
        clear hxy
        cases hd : ks[k].2
        · rw [hd] at c1 HS
          have HR : Hid (Pv.aheadP ks (p, u, v) (p', u', v') = decide (x < y)) := by show _ = _; rw [← HN.out, HS.out]; simp
          go_wp2
          go_ret
          exact ⟨by rw [HR.out]; rfl, BW.out⟩
        · rw [hd] at c1 HS
          have HR : Hid (Pv.aheadP ks (p, u, v) (p', u', v') = !(decide (x < y))) := by show _ = _; rw [← HN.out, HS.out]; simp
          go_wp2
          go_ret
          exact ⟨by rw [HR.out]; rfl, BW.out⟩
    · have hlt' : ¬ (k : Int) < (ks.length : Int) := by omega
      have HS : Hid (Pv.lower (p, u, v) (p', u', v') = Pv.aheadP ks (p, u, v) (p', u', v')) := (Pv.ahead_end ks _ _ k hlt).symm.trans HN.out
      have BW := hide bw
      clear bw
      go_wp2_with fail
      refine (isAhead_any _ _ _ _ _ _ _).mono ?_
      rintro e w3 ⟨rfl, e3⟩
      have B3 := hide (BW.out.trans (e3.mono BW.out.size))
      clear e3
      go_wp2
      go_ret
      exact ⟨by rw [← HS.out]; rfl, B3.out⟩
theorem Pv.peers_drop (ks : List (Nat × Bool)) (a b : Pv.R3) (k : Nat) (h : k < ks.length) : Pv.peersP (ks.drop k) a b = (decide (Pv.colV ks[k].1 a = Pv.colV ks[k].1 b) && Pv.peersP (ks.drop (k + 1)) a b) := by
  rw [List.drop_eq_getElem_cons h]; rfl
theorem Pv.peers_end (ks : List (Nat × Bool)) (a b : Pv.R3) (k : Nat) (h : ¬ k < ks.length) : Pv.peersP (ks.drop k) a b = true := by
  rw [List.drop_eq_nil_of_le (by omega)]; rfl
set_option maxRecDepth 100000 in
set_option maxHeartbeats 4000000 in
theorem lpeers_any {w : World} {g o : Nat} {vk : Value} {ks : List (Nat × Bool)} (h0 : w.cell? ⟨g, o, none⟩ = some vk) (hk : RdK w vk ks) (hl : ks.length ≤ 1000) (hc : ∀ k ∈ ks, k.1 < 3) (p u v p' u' v' : Int) :
    Calls Tryz.prog 216 #[.pointer (some ⟨g, o, none⟩), .agg #[.int .i64 p, .int .i64 u, .int .i64 v], .agg #[.int .i64 p', .int .i64 u', .int .i64 v']] w fun e w' => e = .returned (.bool (Pv.peersP ks (p, u, v) (p', u', v'))) ∧ Below w.heap.size w w' := by
  have HK := hide hk
  have H0 := hide h0
  have HC := hide hc
  obtain ⟨xk, ck, rfl⟩ := RdG.sl hk
  have hgl := cell_lt h0
  clear hk h0 hc
  go_enter Tryz.func216, Tryz.ntmps216
  go_upto_region 1 with fail
  have C0 := hide (K2.start w #[.int .i64 p, .int .i64 u, .int .i64 v] 48 #[.int .i64 p', .int .i64 u', .int .i64 v'] 48)
  generalize ((w.alloc (.cells #[.int .i64 p, .int .i64 u, .int .i64 v] 48)).alloc (.cells #[.int .i64 p', .int .i64 u', .int .i64 v'] 48)) = w0 at *
  have HX : ∀ wx, Hid (Below w0.heap.size w0 wx → Below w.heap.size w wx ∧ wx.cell? ⟨g, o, none⟩ = some (.slice xk ks.length ck) ∧ wx.cell? ⟨w.heap.size, 0, none⟩ = some (.int .i64 p) ∧ wx.cell? ⟨w.heap.size, 1, none⟩ = some (.int .i64 u) ∧ wx.cell? ⟨w.heap.size, 2, none⟩ = some (.int .i64 v) ∧ wx.cell? ⟨w.heap.size + 1, 0, none⟩ = some (.int .i64 p') ∧ wx.cell? ⟨w.heap.size + 1, 1, none⟩ = some (.int .i64 u') ∧ wx.cell? ⟨w.heap.size + 1, 2, none⟩ = some (.int .i64 v')) := fun wx hb => by
    have C1 := C0.out.below hb
    exact ⟨C1.bl, (C1.bl.cell (p := ⟨g, o, none⟩) hgl).trans H0.out, cell_of_heap C1.a 0, cell_of_heap C1.a 1, cell_of_heap C1.a 2, cell_of_heap C1.b 0, cell_of_heap C1.b 1, cell_of_heap C1.b 2⟩
  go_wp2
  go_loopw [7] (fun i wr => ∃ k : Nat, k ≤ ks.length ∧ i = .int .i64 k ∧ Below w0.heap.size w0 wr ∧ Hid (Pv.peersP (ks.drop k) (p, u, v) (p', u', v') = Pv.peersP ks (p, u, v) (p', u', v'))) (fun i _ => ks.length - (intOf i).toNat)
  case atStart => exact ⟨0, by omega, rfl, Below.refl _ _, rfl⟩
  case round =>
    obtain ⟨k, hk, rfl, hb, HN⟩ := hrel
    have B1 := hide hb
    clear hb
    obtain ⟨bw, q0, a0, a1, a2, b0, b1, b2⟩ := (HX _).out B1.out
    by_cases hlt : k < ks.length
    · have hlt' : (k : Int) < (ks.length : Int) := by omega
      obtain ⟨gk, ok, cap, e, _⟩ := RdG.form1 HK.out (by omega)
      cases e
      have HS := hide (Pv.peers_drop ks (p, u, v) (p', u', v') k hlt)
      have hc3 := HC.out _ (List.getElem_mem hlt)
      have HY : ∀ w', Hid (Below wr.heap.size wr w' → (fun w' => w'.cell? ⟨g, o, none⟩ = some (.slice (some ⟨gk, ok, none⟩) ks.length ck) ∧ w'.cell? ⟨w.heap.size, 0, none⟩ = some (.int .i64 p) ∧ w'.cell? ⟨w.heap.size, 1, none⟩ = some (.int .i64 u) ∧ w'.cell? ⟨w.heap.size, 2, none⟩ = some (.int .i64 v) ∧ w'.cell? ⟨w.heap.size + 1, 0, none⟩ = some (.int .i64 p') ∧ w'.cell? ⟨w.heap.size + 1, 1, none⟩ = some (.int .i64 u') ∧ w'.cell? ⟨w.heap.size + 1, 2, none⟩ = some (.int .i64 v') ∧ w'.cell? ⟨gk, ok + k * 2, none⟩ = some (.int .i64 (ks[k].1 : Int)) ∧ Hid (Below wr.heap.size wr w')) w') := fun w' hb => by
        obtain ⟨bw, q0, a0, a1, a2, b0, b1, b2⟩ := (HX _).out (B1.out.trans (hb.mono B1.out.size))
        exact ⟨q0, a0, a1, a2, b0, b1, b2, ((HK.out.below bw).cell k hlt).1, hb⟩
      clear bw
      go_upto_region 4 with fail
      clear q0 a0 a1 a2 b0 b1 b2
      go_region_held3 (fun w' => w'.cell? ⟨g, o, none⟩ = some (.slice (some ⟨gk, ok, none⟩) ks.length ck) ∧ w'.cell? ⟨w.heap.size, 0, none⟩ = some (.int .i64 p) ∧ w'.cell? ⟨w.heap.size, 1, none⟩ = some (.int .i64 u) ∧ w'.cell? ⟨w.heap.size, 2, none⟩ = some (.int .i64 v) ∧ w'.cell? ⟨w.heap.size + 1, 0, none⟩ = some (.int .i64 p') ∧ w'.cell? ⟨w.heap.size + 1, 1, none⟩ = some (.int .i64 u') ∧ w'.cell? ⟨w.heap.size + 1, 2, none⟩ = some (.int .i64 v') ∧ w'.cell? ⟨gk, ok + k * 2, none⟩ = some (.int .i64 (ks[k].1 : Int)) ∧ Hid (Below wr.heap.size wr w')) (first | exact (HY _).out (below_drew0 _) | (refine (HY _).out ?_; go_split_ands; exact Below.trans (Hid.out (by assumption)) (Below.mono (by assumption) (Below.size (Hid.out (by assumption)))))) ((go_at_call 197; refine (colOf_any hc3 _ _ _ _).mono ?_; rintro e w3 ⟨rfl, b3⟩))
      rename_i hH
      have B4 := hide (B1.out.trans (hH.2.2.2.2.2.2.2.2.out.mono B1.out.size))
      have BW := hide ((HX _).out B4.out).1
      clear hH b3
      generalize Pv.colV ks[k].1 (p, u, v) = cx at *
      generalize Pv.colV ks[k].1 (p', u', v') = cy at *
      by_cases hxy : cx = cy
      · subst hxy
        rw [decide_eq_true rfl, Bool.true_and] at HS
        go_wp2
        go_roundw
        case rel => exact ⟨k + 1, by omega, by go_num, B4.out, HS.out.symm.trans HN.out⟩
        case measure => simp [intOf]; omega
      · rw [decide_eq_false hxy, Bool.false_and] at HS
        have hxy' : (cx != cy) = true := by simp [hxy]
        have HR : Hid (Pv.peersP ks (p, u, v) (p', u', v') = false) := HN.out.symm.trans HS.out
        clear hxy
        go_wp2
        go_ret
        exact ⟨by rw [HR.out]; rfl, BW.out⟩
    · have hlt' : ¬ (k : Int) < (ks.length : Int) := by omega
      have HR : Hid (Pv.peersP ks (p, u, v) (p', u', v') = true) := HN.out.symm.trans (Pv.peers_end ks _ _ k hlt)
      have BW := hide bw
      clear bw
      go_wp2
      go_ret
      exact ⟨by rw [HR.out]; rfl, BW.out⟩
set_option maxRecDepth 100000 in
set_option maxHeartbeats 2000000 in
theorem lends_any {w : World} {g o : Nat} {vk vc : Value} {ks : List (Nat × Bool)} {L : List Pv.R3} (h : LnAt w g o vk vc ks L) (hl : ks.length ≤ 1000) (hc : ∀ k ∈ ks, k.1 < 3) (hL : L.length ≤ 100000) (i : Int) (hi1 : -1000000 ≤ i) (hi2 : i ≤ 1000000) :
    Calls Tryz.prog 198 #[.pointer (some ⟨g, o, none⟩), .int .i64 i] w fun e w' => e = .returned (.bool (Pv.endsP ks L i)) ∧ Below w.heap.size w w' := by
  have HH := hide h
  have HC := hide hc
  obtain ⟨xc, cc, rfl⟩ := RdG.sl h.rc
  have q1 := h.c1
  clear h hc
  by_cases h1 : i < 1
  · have HE := hide (Pv.endsP_out ks L i (.inl h1))
    go_enter Tryz.func198, Tryz.ntmps198
    go_wp2
    go_ret
    exact ⟨by rw [HE.out]; rfl, Below.refl _ _⟩
  · by_cases h2 : (L.length : Int) ≤ i
    · have HE := hide (Pv.endsP_out ks L i (.inr h2))
      go_enter Tryz.func198, Tryz.ntmps198
      go_wp2
      go_ret
      exact ⟨by rw [HE.out]; rfl, Below.refl _ _⟩
    · obtain ⟨j, rfl⟩ : ∃ j : Nat, i = (j : Int) + 1 := ⟨(i - 1).toNat, by omega⟩
      have hj1 : j + 1 < L.length := by omega
      have hj0 : j < L.length := by omega
      have hj1' : (j : Int) + 1 < (L.length : Int) := by omega
      have hj0' : (j : Int) < (L.length : Int) := by omega
      have HE := hide (Pv.endsP_in ks L j hj1)
      have HE2 : Hid (Pv.endsP ks L ((j : Int) + 1) = !(Pv.peersP ks L[j] L[j + 1])) := HE.out
      obtain ⟨gc, oc, cap, e, _⟩ := RdG.form1 HH.out.rc (by omega)
      cases e
      obtain ⟨c0, c1, c2⟩ := HH.out.rc.cell j hj0
      obtain ⟨d0, d1, d2⟩ := HH.out.rc.cell (j + 1) hj1
      have hwj : IntKind.i64.wrap (j : Int) = (j : Int) := wrap_id (by omega) (by omega)
      have b5 : (0 : Int) ≤ (j : Int) + 1 := by omega
      clear HE
      go_enter Tryz.func198, Tryz.ntmps198
      go_upto_region 3 with fail
      go_still_tail 16, (by kernel_rfl)
      go_wp2_with fail
      refine (lpeers_any (HH.out.below (below_drew0 _)).c0 (HH.out.below (below_drew0 _)).rk hl HC.out _ _ _ _ _ _).mono ?_
      rintro e w3 ⟨rfl, e3⟩
      have B3 := hide (undrew e3)
      clear e3
      go_wp2
      go_ret
      exact ⟨by rw [HE2.out]; rfl, B3.out⟩
end Go.Proofs.YtcoofnhdbejnpaaGreatDoor

/- Package lines: firstPeer, lastPeer, groupsUpTo. -/
namespace Go.Proofs.YtcoofnhdbejnpaaGreatDoor
open Go.RowKit
/-- what a line must keep to -/
structure LnOk (ks : List (Nat × Bool)) (L : List Pv.R3) : Prop where
  kl : ks.length ≤ 1000
  kc : ∀ k ∈ ks, k.1 < 3
  ll : L.length ≤ 100000
  k0 : ks ≠ []
  row : ∀ r ∈ L, ∀ c, -1000 ≤ Pv.colV c r ∧ Pv.colV c r ≤ 1000
  srt : Pv.SrtL ks L
set_option maxRecDepth 100000 in
set_option maxHeartbeats 1000000 in
theorem lfirst_any {w : World} {g o : Nat} {vk vc : Value} {ks : List (Nat × Bool)} {L : List Pv.R3} (h : LnAt w g o vk vc ks L) (hk : LnOk ks L) (i : Nat) (hi : i < L.length) :
    Calls Tryz.prog 176 #[.pointer (some ⟨g, o, none⟩), .int .i64 ((i : Int) + 1)] w fun e w' => Below w.heap.size w w' ∧ ∃ a : Nat, a ≤ i ∧ Pv.endsP ks L (a : Nat) = true ∧ (∀ j : Nat, a < j → j ≤ i → Pv.endsP ks L (j : Nat) = false) ∧ e = .returned (.int .i64 ((a : Int) + 1)) := by
  have HH := hide h
  have HK := hide hk
  have hll := hk.ll
  clear h hk
  go_enter Tryz.func176, Tryz.ntmps176
  go_wp2_with fail
  go_loopw [1] (fun r wr => ∃ a : Nat, a ≤ i ∧ r = .int .i64 ((a : Int) + 1) ∧ Below w.heap.size w wr ∧ Hid (∀ j : Nat, a < j → j ≤ i → Pv.endsP ks L (j : Nat) = false)) (fun r _ => (intOf r).toNat)
  case atStart => exact ⟨i, Nat.le_refl _, rfl, Below.refl _ _, fun j h1 h2 => by omega⟩
  case round =>
    obtain ⟨a, ha, rfl, hb, HN⟩ := hrel
    have B1 := hide hb
    clear hb
    go_wp2_with fail
    refine (lends_any (HH.out.below B1.out) HK.out.kl HK.out.kc HK.out.ll (a : Int) (by omega) (by omega)).mono ?_
    rintro e w3 ⟨rfl, e3⟩
    have B3 := hide (B1.out.trans (e3.mono B1.out.size))
    clear e3
    cases he : Pv.endsP ks L (a : Int)
    · have h0 : 0 < a := by
        rcases Nat.eq_zero_or_pos a with h | h
        · subst h
          rw [Pv.endsP_out ks L _ (.inl (by omega))] at he; cases he
        · exact h
      obtain ⟨b, rfl⟩ : ∃ b, a = b + 1 := ⟨a - 1, by omega⟩
      have HE : Hid (Pv.endsP ks L ((b + 1 : Nat) : Int) = false) := he
      go_wp2
      go_roundw
      case rel =>
        refine ⟨b, by omega, by go_num, B3.out, fun j h1 h2 => ?_⟩
        rcases Nat.lt_or_ge (b + 1) j with h3 | h3
        · exact HN.out j h3 h2
        · obtain rfl : j = b + 1 := by omega
          exact HE.out
      case measure => simp [intOf]; omega
    · have HE : Hid (Pv.endsP ks L (a : Int) = true) := he
      go_wp2
      go_ret
      exact ⟨B3.out, a, ha, HE.out, HN.out, rfl⟩
set_option maxRecDepth 100000 in
set_option maxHeartbeats 1000000 in
theorem llast_any {w : World} {g o : Nat} {vk vc : Value} {ks : List (Nat × Bool)} {L : List Pv.R3} (h : LnAt w g o vk vc ks L) (hk : LnOk ks L) (i : Nat) (hi : i < L.length) :
    Calls Tryz.prog 201 #[.pointer (some ⟨g, o, none⟩), .int .i64 ((i : Int) + 1)] w fun e w' => Below w.heap.size w w' ∧ ∃ b : Nat, i < b ∧ b ≤ L.length ∧ Pv.endsP ks L (b : Nat) = true ∧ (∀ j : Nat, i < j → j < b → Pv.endsP ks L (j : Nat) = false) ∧ e = .returned (.int .i64 (b : Int)) := by
  have HH := hide h
  have HK := hide hk
  have hll := hk.ll
  clear h hk
  go_enter Tryz.func201, Tryz.ntmps201
  go_wp2_with fail
  go_loopw [1] (fun r wr => ∃ b : Nat, i < b ∧ b ≤ L.length ∧ r = .int .i64 (b : Int) ∧ Below w.heap.size w wr ∧ Hid (∀ j : Nat, i < j → j < b → Pv.endsP ks L (j : Nat) = false)) (fun r _ => L.length - (intOf r).toNat)
  case atStart => exact ⟨i + 1, by omega, by omega, by go_num, Below.refl _ _, fun j h1 h2 => by omega⟩
  case round =>
    obtain ⟨b, hb1, hb2, rfl, hb, HN⟩ := hrel
    have B1 := hide hb
    clear hb
    go_wp2_with fail
    refine (lends_any (HH.out.below B1.out) HK.out.kl HK.out.kc HK.out.ll (b : Int) (by omega) (by omega)).mono ?_
    rintro e w3 ⟨rfl, e3⟩
    have B3 := hide (B1.out.trans (e3.mono B1.out.size))
    clear e3
    cases he : Pv.endsP ks L (b : Int)
    · have h0 : b < L.length := by
        rcases Nat.lt_or_ge b L.length with h | h
        · exact h
        · rw [Pv.endsP_out ks L _ (.inr (by omega))] at he; cases he
      have HE : Hid (Pv.endsP ks L (b : Int) = false) := he
      go_wp2
      go_roundw
      case rel =>
        refine ⟨b + 1, by omega, by omega, by go_num, B3.out, fun j h1 h2 => ?_⟩
        rcases Nat.lt_or_ge j b with h3 | h3
        · exact HN.out j h1 h3
        · obtain rfl : j = b := by omega
          exact HE.out
      case measure => simp [intOf]; omega
    · have HE : Hid (Pv.endsP ks L (b : Int) = true) := he
      go_wp2
      go_ret
      exact ⟨B3.out, b, hb1, hb2, HE.out, HN.out, rfl⟩
theorem Pv.groupsN_bd (ks : List (Nat × Bool)) (l : List Pv.R3) : ∀ k : Nat, 1 ≤ Pv.groupsN ks l k ∧ Pv.groupsN ks l k ≤ k + 1
  | 0 => by simp [Pv.groupsN]
  | k + 1 => by
    have ih := Pv.groupsN_bd ks l k
    rw [Pv.groupsN]
    split <;> omega
set_option maxRecDepth 100000 in
set_option maxHeartbeats 1000000 in
theorem lgroups_any {w : World} {g o : Nat} {vk vc : Value} {ks : List (Nat × Bool)} {L : List Pv.R3} (h : LnAt w g o vk vc ks L) (hk : LnOk ks L) (i : Nat) (hi : i < L.length) :
    Calls Tryz.prog 177 #[.pointer (some ⟨g, o, none⟩), .int .i64 ((i : Int) + 1)] w fun e w' => Below w.heap.size w w' ∧ e = .returned (.int .i64 (Pv.groupsN ks L i)) := by
  have HH := hide h
  have HK := hide hk
  have hll := hk.ll
  clear h hk
  go_enter Tryz.func177, Tryz.ntmps177
  go_wp2_with fail
  go_loopw [5, 6] (fun n5 r6 wr => ∃ k : Nat, k ≤ i ∧ r6 = .int .i64 ((k : Int) + 1) ∧ n5 = .int .i64 (Pv.groupsN ks L k) ∧ Below w.heap.size w wr) (fun _ r6 _ => i + 1 - (intOf r6).toNat)
  case atStart => exact ⟨0, by omega, rfl, rfl, Below.refl _ _⟩
  case round =>
    obtain ⟨k, hki, rfl, rfl, hb⟩ := hrel
    have B1 := hide hb
    clear hb
    have HG : Hid (Pv.groupsN ks L (k + 1) = Pv.groupsN ks L k + (if Pv.endsP ks L (k + 1 : Nat) then 1 else 0)) := hide rfl
    obtain ⟨g1, g2⟩ := Pv.groupsN_bd ks L k
    by_cases hlt : k < i
    · have hlt' : (k : Int) + 1 < (i : Int) + 1 := by omega
      generalize Pv.groupsN ks L k = n at *
      go_wp2_with fail
      refine (lends_any (HH.out.below B1.out) HK.out.kl HK.out.kc HK.out.ll ((k : Int) + 1) (by omega) (by omega)).mono ?_
      rintro e w3 ⟨rfl, e3⟩
      have B3 := hide (B1.out.trans (e3.mono B1.out.size))
      clear e3
      cases he : Pv.endsP ks L ((k : Int) + 1)
      · have HE : Hid (Pv.groupsN ks L (k + 1) = n) := by
          show _ = _
          rw [HG.out, show Pv.endsP ks L (k + 1 : Nat) = false from he]; simp
        go_wp2
        go_roundw
        case rel => exact ⟨k + 1, by omega, by go_num, by rw [HE.out], B3.out⟩
        case measure => simp [intOf]; omega
      · have HE : Hid (Pv.groupsN ks L (k + 1) = n + 1) := by
          show _ = _
          rw [HG.out, show Pv.endsP ks L (k + 1 : Nat) = true from he]; simp
        go_wp2
        go_roundw
        case rel => exact ⟨k + 1, by omega, by go_num, by rw [HE.out], B3.out⟩
        case measure => simp [intOf]; omega
    · obtain rfl : k = i := by omega
      have hlt' : ¬ (k : Int) + 1 < (k : Int) + 1 := by omega
      go_wp2
      go_ret
      exact ⟨B1.out, rfl⟩
end Go.Proofs.YtcoofnhdbejnpaaGreatDoor

