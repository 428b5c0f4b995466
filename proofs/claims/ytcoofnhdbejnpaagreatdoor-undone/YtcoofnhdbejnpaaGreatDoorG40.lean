/- Package paneskeep: turned, copies, lists that read alike. -/
import Derived.Test.YtcoofnhdbejnpaaGreatDoorG30
import Derived.Test.YtcoofnhdbejnpaaGreatDoorG39
import Derived.Test.YtcoofnhdbejnpaaGreatDoorG02
import Derived.Test.YtcoofnhdbejnpaaGreatDoorG06
namespace Go.Proofs.YtcoofnhdbejnpaaGreatDoor
open Go.RowKit
/-- the same changes with their numbers turned -/
def TurnPost (w : World) (l : List Pv.Chg) (e : Ending) (w' : World) : Prop := Below w.heap.size w w' ∧ ∃ x n c, e = .returned (.slice x n c) ∧ w'.ownsRow w.heap.size 50 4 (.slice x n c) l.length (rchgs (Pk.turnF l))
theorem turn_take (l : List Pv.Chg) (k : Nat) (h : k < l.length) : rchgs (Pk.turnF (l.take (k + 1))) = rchgs (Pk.turnF (l.take k)) ++ rchg (l[k].1, -l[k].2) := by
  rw [List.take_succ_eq_append_getElem h]
  unfold Pk.turnF
  rw [List.map_append]
  exact rchgs_snoc _ _
set_option maxRecDepth 100000 in
set_option maxHeartbeats 2000000 in
theorem turned_any {w : World} {v : Value} {l : List Pv.Chg} (hv : RdC w v l) (hl : l.length ≤ 1000) (hbd : ∀ c ∈ l, -1000000 ≤ c.2 ∧ c.2 ≤ 1000000) :
    Calls Tryz.prog 30 #[v] w fun e w' => TurnPost w l e w' := by
  obtain ⟨i0, hi, hz0, hz1, hz2⟩ := info_parts infoChg
  have HV := hide hv
  have HBD := hide hbd
  obtain ⟨av, cv, rfl⟩ := rdc_sl hv
  clear hv hbd
  go_enter Tryz.func30, Tryz.ntmps30
  go_wp2
  go_loopw [3, 4] (fun s i wr => ∃ k : Nat, k ≤ l.length ∧ i = .int .i64 k ∧ (∃ x n c, s = .slice x n c) ∧ Hid (Below w.heap.size w wr) ∧ Hid (wr.ownsRow w.heap.size 50 4 s k (rchgs (Pk.turnF (l.take k))))) (fun _ i _ => l.length - (intOf i).toNat)
  case atStart => exact ⟨0, by omega, rfl, ⟨_, _, _, rfl⟩, Below.refl _ _, World.ownsRow_nil _ _ _ _⟩
  case round =>
    obtain ⟨k, hk, rfl, ⟨x, n, c, rfl⟩, B1, O1⟩ := hrel
    have hs1 := B1.out.size
    by_cases hlt : k < l.length
    · have hlt' : (k : Int) < (l.length : Int) := by omega
      obtain ⟨g, off, cap, e, hcap⟩ := HV.out.form1 (by omega)
      cases e
      obtain ⟨c0, c1, c2, c3⟩ := (HV.out.below B1.out).cell k hlt
      have HT := hide (turn_take l k hlt)
      obtain ⟨n1, n2⟩ := HBD.out l[k] (List.getElem_mem hlt)
      have hw : IntKind.i64.wrap (-l[k].2) = -l[k].2 := wrap_id2 (by omega) (by omega)
      generalize hE : Pk.turnF (l.take k) = cur at *
      clear hE
      generalize l[k].2 = m at *
      generalize l[k].1 = r at *
      go_upto_region 5 with fail
      go_region_law (refine step_append_lies _ rfl (.tmp 11) (.tmp 24) 40 rfl w.heap.size 50 i0 _ 4 32 Tryz.underlying40 hi hz0 hz1 hz2 rfl (by decide) _ k (rchgs cur) rfl (O1.out.alloc _).drew _ 1 1 (rchg (r, -m)) rfl rfl (World.news_of_block (heap_alloc_new _ _)) (by intro u hu; simp [rchg] at hu; rcases hu with rfl | rfl | rfl | rfl <;> rfl) (by decide) (by unfold maxLen; omega) (by omega) (by simp; omega) _ rfl ?_; intro g6 cap6 w6 hown6 hgrow6 hat6 hlt6; have O6 := hide hown6; have B6 := hide ((below_dB (B1.out.alloc hs1 _)).grown hgrow6 (by simp; omega) (fun k hk => (O1.out.lt k hk).1)); clear hown6 hgrow6 hat6 hlt6)
      all_goals
        go_wp2
        go_roundw
        case rel => exact ⟨k + 1, by omega, by go_num, ⟨_, _, _, rfl⟩, B6, by rw [HT.out]; exact O6⟩
        case measure => simp [intOf]; omega
    · have hlt' : ¬ (k : Int) < (l.length : Int) := by omega
      obtain rfl : k = l.length := by omega
      rw [List.take_length] at O1
      go_wp2
      go_ret
      exact ⟨B1.out, x, n, c, rfl, O1.out⟩
set_option maxRecDepth 100000 in
set_option maxHeartbeats 1000000 in
theorem copies_any {w : World} {v : Value} {l : List Pv.Chg} (hv : RdC w v l) (hl : l.length ≤ 1000) (hbd : ∀ c ∈ l, -1000000 ≤ c.2 ∧ c.2 ≤ 1000000) :
    Calls Tryz.prog 33 #[v] w fun e w' => e = .returned (.int .i64 (Pv.totalF l)) ∧ w' = w := by
  have HV := hide hv
  have HBD := hide hbd
  obtain ⟨av, cv, rfl⟩ := rdc_sl hv
  clear hv hbd
  go_enter Tryz.func33, Tryz.ntmps33
  go_wp2
  go_loop [3, 4] (fun n i => ∃ k : Nat, k ≤ l.length ∧ i = .int .i64 k ∧ n = .int .i64 (Pv.totalF (l.take k))) (fun _ i => l.length - (intOf i).toNat)
  case atStart => exact ⟨0, by omega, rfl, rfl⟩
  case round =>
    obtain ⟨k, hk, rfl, rfl⟩ := hrel
    by_cases hlt : k < l.length
    · have hlt' : (k : Int) < (l.length : Int) := by omega
      obtain ⟨g, off, cap, e, hcap⟩ := HV.out.form1 (by omega)
      cases e
      obtain ⟨c0, c1, c2, c3⟩ := HV.out.cell k hlt
      have HT := hide (Pv.total_take l k hlt)
      obtain ⟨n1, n2⟩ := HBD.out l[k] (List.getElem_mem hlt)
      have htb := Pv.total_bd (t := l.take k) (b := 1000000) (fun c hc => HBD.out c (List.mem_of_mem_take hc))
      rw [List.length_take] at htb
      have t1 : -2000000000 ≤ Pv.totalF (l.take k) := by omega
      have t2 : Pv.totalF (l.take k) ≤ 2000000000 := by omega
      clear htb
      generalize Pv.totalF (l.take k) = s at *
      go_wp2
      go_round
      case rel => exact ⟨k + 1, by omega, by go_num, by rw [HT.out]⟩
      case measure => simp [intOf]; omega
    · have hlt' : ¬ (k : Int) < (l.length : Int) := by omega
      have HE : Hid (Pv.totalF (l.take k) = Pv.totalF l) := by show _ = _; rw [List.take_of_length_le (by omega)]
      go_wp2
      go_ret
      exact ⟨by rw [← HE.out]; rfl, rfl⟩
def krv (r : Pv.R3) : Value := .agg #[.int .i64 r.1, .int .i64 r.2.1, .int .i64 r.2.2]
set_option maxHeartbeats 1000000 in
theorem ksameRow_eq (r : Pv.R3) (w : World) : Calls Tryz.prog 20 #[krv r, krv r] w fun e w' => e = .returned (.bool true) ∧ Below w.heap.size w w' := by
  obtain ⟨p, u, v⟩ := r
  unfold krv
  simp only
  go_enter Tryz.func20, Tryz.ntmps20
  go_wp2
  go_ret
  exact ⟨by simp, ((Below.refl _ _).alloc (Nat.le_refl _) _).alloc (by simp) _⟩
set_option maxRecDepth 100000 in
set_option maxHeartbeats 1000000 in
theorem ksameVals_eq {w : World} {l : List Pv.Val} {sa sb : Value} (ha : RdV w sa l) (hb : RdV w sb l) (hl : l.length ≤ 1000000) :
    Calls Tryz.prog 21 #[sa, sb] w fun e w' => e = .returned (.bool true) ∧ Below w.heap.size w w' := by
  obtain ⟨xa, ca, rfl⟩ := RdG.sl ha
  obtain ⟨xb, cb, rfl⟩ := RdG.sl hb
  have HA := hide ha
  have HB := hide hb
  clear ha hb
  go_enter Tryz.func21, Tryz.ntmps21
  go_wp2
  go_loopw [5] (fun i wr => ∃ k m : Nat, k ≤ l.length ∧ i = .int .i64 k ∧ wr = w.drewN m) (fun i _ => l.length - (intOf i).toNat)
  case atStart => exact ⟨0, 0, by omega, rfl, rfl⟩
  case round =>
    obtain ⟨k, m, hk, rfl, rfl⟩ := hrel
    by_cases hkl : k < l.length
    · have hkl' : (k : Int) < (l.length : Int) := by omega
      obtain ⟨ga, offa, ca', ea, _⟩ := RdG.form1 HA.out (by omega)
      obtain ⟨gb, offb, cb', eb, _⟩ := RdG.form1 HB.out (by omega)
      cases ea
      cases eb
      obtain ⟨d0, d1⟩ := HA.out.cell k hkl
      obtain ⟨d2, d3⟩ := HB.out.cell k hkl
      generalize l[k].isSome = ok at *
      generalize l[k].getD 0 = n at *
      cases ok
      all_goals
        go_wp2
        go_quiet (fail)
        go_wp2
        go_roundw
        case rel => exact ⟨k + 1, m + nq, by omega, by go_num, rfl⟩
        case measure => simp [intOf]; omega
    · have hkl' : ¬ (k : Int) < (l.length : Int) := by omega
      go_wp2
      go_ret
      exact ⟨rfl, below_drewM (Below.refl _ _) _⟩
set_option maxRecDepth 100000 in
set_option maxHeartbeats 1000000 in
theorem ksameTables_eq {w : World} {l : List Pv.Chg} {sa sb : Value} (ha : RdC w sa l) (hb : RdC w sb l) (hl : l.length ≤ 100000000000000) :
    Calls Tryz.prog 32 #[sa, sb] w fun e w' => e = .returned (.bool true) ∧ Below w.heap.size w w' := by
  have HA := hide ha
  have HB := hide hb
  obtain ⟨xa, ca, rfl⟩ := rdc_sl ha
  obtain ⟨xb, cb, rfl⟩ := rdc_sl hb
  clear ha hb
  go_enter Tryz.func32, Tryz.ntmps32
  go_wp2
  go_loopw [5] (fun i wr => ∃ k : Nat, k ≤ l.length ∧ i = .int .i64 k ∧ Below w.heap.size w wr) (fun i _ => l.length - (intOf i).toNat)
  case atStart => exact ⟨0, by omega, rfl, Below.refl _ _⟩
  case round =>
    obtain ⟨k, hk, rfl, hbe⟩ := hrel
    have B1 := hide hbe
    clear hbe
    by_cases hkl : k < l.length
    · have hkl' : (k : Int) < (l.length : Int) := by omega
      obtain ⟨ga, offa, ca', ea, _⟩ := HA.out.form1 (by omega)
      obtain ⟨gb, offb, cb', eb, _⟩ := HB.out.form1 (by omega)
      cases ea
      cases eb
      obtain ⟨a0, a1, a2, a3⟩ := (HA.out.below B1.out).cell k hkl
      obtain ⟨b0, b1, b2, b3⟩ := (HB.out.below B1.out).cell k hkl
      go_upto_region 6 with fail
      go_still_tail 10, (by kernel_rfl)
      go_wp2_with fail
      refine (ksameRow_eq l[k].1 _).mono ?_
      rintro e w3 ⟨rfl, e3⟩
      replace e3 := undrew e3
      have B3 := hide (B1.out.trans (e3.mono B1.out.size))
      clear a0 a1 a2 a3 b0 b1 b2 b3 e3 B1
      obtain ⟨a0, a1, a2, a3⟩ := (HA.out.below B3.out).cell k hkl
      obtain ⟨b0, b1, b2, b3⟩ := (HB.out.below B3.out).cell k hkl
      go_wp2
      go_quiet (fail)
      go_wp2
      go_roundw
      case rel => exact ⟨k + 1, by omega, by go_num, below_drewM B3.out _⟩
      case measure => simp [intOf]; omega
    · have hkl' : ¬ (k : Int) < (l.length : Int) := by omega
      go_wp2
      go_ret
      exact ⟨rfl, B1.out⟩
/-- out rows with their numbers times a sign -/
def timesO (sg : Int) (l : List Pv.Out) : List Pv.Out := l.map (fun o => (o.1, o.2.1, sg * o.2.2))
set_option maxRecDepth 100000 in
set_option maxHeartbeats 2000000 in
theorem ksameOuts_eq {w : World} {l : List Pv.Out} {sa sb : Value} {sg : Int} (ha : RdO w sa (timesO sg l)) (hb : RdO w sb l) (hl : l.length ≤ 1000000) (hv : ∀ x ∈ l, x.2.1.length ≤ 1000 ∧ IntKind.i64.wrap (sg * x.2.2) = sg * x.2.2) :
    Calls Tryz.prog 31 #[sa, sb, .int .i64 sg] w fun e w' => e = .returned (.bool true) ∧ Below w.heap.size w w' := by
  have hlm : (timesO sg l).length = l.length := by simp [timesO]
  obtain ⟨xa, ca, ea⟩ := ha.sl
  rw [hlm] at ea
  subst ea
  obtain ⟨xb, cb, rfl⟩ := hb.sl
  have HA := hide ha
  have HB := hide hb
  have HV := hide hv
  have HLM := hide hlm
  clear ha hb hv hlm
  go_enter Tryz.func31, Tryz.ntmps31
  go_wp2
  go_loopw [7] (fun i wr => ∃ k : Nat, k ≤ l.length ∧ i = .int .i64 k ∧ Below w.heap.size w wr) (fun i _ => l.length - (intOf i).toNat)
  case atStart => exact ⟨0, by omega, rfl, Below.refl _ _⟩
  case round =>
    obtain ⟨k, hk, rfl, hbe⟩ := hrel
    have B1 := hide hbe
    clear hbe
    by_cases hkl : k < l.length
    · have hkl' : (k : Int) < (l.length : Int) := by omega
      obtain ⟨ga, offa, ca', ea, _⟩ := HA.out.form1 (by rw [HLM.out]; omega)
      obtain ⟨gb, offb, cb', eb, _⟩ := HB.out.form1 (by omega)
      rw [HLM.out] at ea
      cases ea
      cases eb
      obtain ⟨ya, da, hra, a0, a1, a2, a3, a4⟩ := (HA.out.below B1.out).cell k (by rw [HLM.out]; exact hkl)
      obtain ⟨yb, db, hrb, b0, b1, b2, b3, b4⟩ := (HB.out.below B1.out).cell k hkl
      simp only [timesO, List.getElem_map] at hra a0 a1 a2 a3 a4
      have HRA := hide hra
      have HRB := hide hrb
      clear hra hrb
      go_upto_region 6 with fail
      go_still_tail 10, (by kernel_rfl)
      go_wp2_with fail
      refine (ksameRow_eq l[k].1 _).mono ?_
      rintro e w3 ⟨rfl, e3⟩
      replace e3 := undrew e3
      have E3 := hide e3
      have c3 := (hide (e3.cell (p := ⟨ga, offa + k * 5 + 3, none⟩) (World.cell?_lt a3))).out.trans a3
      have c4 := (hide (e3.cell (p := ⟨ga, offa + k * 5 + 4, none⟩) (World.cell?_lt a4))).out.trans a4
      have d3 := (hide (e3.cell (p := ⟨gb, offb + k * 5 + 3, none⟩) (World.cell?_lt b3))).out.trans b3
      have d4 := (hide (e3.cell (p := ⟨gb, offb + k * 5 + 4, none⟩) (World.cell?_lt b4))).out.trans b4
      clear a0 a1 a2 a3 a4 b0 b1 b2 b3 b4 e3
      obtain ⟨hvk, hwk⟩ := HV.out l[k] (List.getElem_mem hkl)
      go_upto_region 7 with fail
      go_still_tail 10, (by kernel_rfl)
      go_wp2_with fail
      refine (ksameVals_eq (l := l[k].2.1) (HRA.out.below (below_d E3.out)) (HRB.out.below (below_d E3.out)) (by omega)).mono ?_
      rintro e w4 ⟨rfl, e4⟩
      replace e4 := undrew e4
      have f4 := (hide (e4.cell (p := ⟨ga, offa + k * 5 + 4, none⟩) (World.cell?_lt c4))).out.trans c4
      have g4 := (hide (e4.cell (p := ⟨gb, offb + k * 5 + 4, none⟩) (World.cell?_lt d4))).out.trans d4
      have E4 := hide (E3.out.trans (e4.mono E3.out.size))
      have B4 := hide (B1.out.trans (E4.out.mono B1.out.size))
      clear c3 c4 d3 d4 e4 B1
      go_wp2
      go_quiet (fail)
      go_wp2
      go_roundw
      case rel => exact ⟨k + 1, by omega, by go_num, below_drewM B4.out _⟩
      case measure => simp [intOf]; omega
    · have hkl' : ¬ (k : Int) < (l.length : Int) := by omega
      go_wp2
      go_ret
      exact ⟨rfl, B1.out⟩
end Go.Proofs.YtcoofnhdbejnpaaGreatDoor

/- Plain mathematics: the tokens of a text that is written token by token. -/
namespace Go.Proofs.YtcoofnhdbejnpaaGreatDoor
namespace Pq
/-- what a token may be -/
def Tk (t : Bytes) : Prop := ∀ M : Bytes → Prop, (∀ (c : UInt8), isSgn c = true → M [c]) → (∀ (t : Bytes), t ≠ [] → t.length ≤ 2 → (∀ c ∈ t, isDig c = true) → M t) → (∀ (t : Bytes), t ≠ [] → t.length ≤ 8 → (∀ c ∈ t, isLet c = true) → M t) → M t
theorem Tk.sign (c : UInt8) (h : isSgn c = true) : Tk [c] := fun _ r0 _ _ => r0 c h
theorem Tk.digits (t : Bytes) (h0 : t ≠ []) (h2 : t.length ≤ 2) (h : ∀ c ∈ t, isDig c = true) : Tk t := fun _ _ r1 _ => r1 t h0 h2 h
theorem Tk.word (t : Bytes) (h0 : t ≠ []) (h8 : t.length ≤ 8) (h : ∀ c ∈ t, isLet c = true) : Tk t := fun _ _ _ r2 => r2 t h0 h8 h
theorem Tk_ind {motive : (t : Bytes) → Tk t → Prop} (sign : ∀ (c : UInt8) (h : isSgn c = true), motive [c] (Tk.sign c h)) (digits : ∀ (t : Bytes) (h0 : t ≠ []) (h2 : t.length ≤ 2) (h : ∀ c ∈ t, isDig c = true), motive t (Tk.digits t h0 h2 h)) (word : ∀ (t : Bytes) (h0 : t ≠ []) (h8 : t.length ≤ 8) (h : ∀ c ∈ t, isLet c = true), motive t (Tk.word t h0 h8 h)) (t : Bytes) (h : Tk t) : motive t h := by
  obtain ⟨_, q⟩ := h (fun t => ∃ h : Tk t, motive t h) (fun c h => ⟨_, sign c h⟩) (fun t h0 h2 h => ⟨_, digits t h0 h2 h⟩) (fun t h0 h8 h => ⟨_, word t h0 h8 h⟩)
  exact q
/-- a byte that ends every row -/
def isOther (c : UInt8) : Prop := isDig c = false ∧ isLet c = false
/-- what stands behind the token t does not go on with it -/
def Ends (t rest : Bytes) : Prop := (∃ c, t = [c] ∧ isSgn c = true) ∨ ∀ c r, rest = c :: r → isOther c
theorem drop_at (p : Bytes) (x : Bytes) : (p ++ x).drop p.length = x := by simp
theorem get_at (p : Bytes) (c : UInt8) (x : Bytes) (h : p.length < (p ++ c :: x).length) : (p ++ c :: x)[p.length]'h = c := by
  rw [List.getElem_append_right (Nat.le_refl _)]; simp
theorem sgn_blk {c : UInt8} (h : isSgn c = true) : isBlk c = false := by
  simp only [isSgn, isBlk, Bool.or_eq_true, beq_iff_eq, Bool.or_eq_false_iff, beq_eq_false_iff_ne] at *; omega
theorem dig_blk {c : UInt8} (h : isDig c = true) : isBlk c = false := by
  simp only [isDig, isBlk, Bool.and_eq_true, decide_eq_true_eq, Bool.or_eq_false_iff, beq_eq_false_iff_ne] at *; omega
theorem let_blk {c : UInt8} (h : isLet c = true) : isBlk c = false := by
  simp only [isLet, isBlk, Bool.and_eq_true, decide_eq_true_eq, Bool.or_eq_false_iff, beq_eq_false_iff_ne] at *; omega
theorem let_sgn {c : UInt8} (h : isLet c = true) : isSgn c = false := by
  simp only [isLet, isSgn, Bool.and_eq_true, decide_eq_true_eq, Bool.or_eq_false_iff, beq_eq_false_iff_ne] at *; omega
theorem let_dig {c : UInt8} (h : isLet c = true) : isDig c = false := by
  simp only [isLet, isDig, Bool.and_eq_true, decide_eq_true_eq, Bool.and_eq_false_iff, decide_eq_false_iff_not] at *; omega
theorem sgn_dig {c : UInt8} (h : isSgn c = true) : isDig c = false := by
  simp only [isSgn, isDig, Bool.or_eq_true, beq_iff_eq, Bool.and_eq_false_iff, decide_eq_false_iff_not] at *; omega
theorem blk_other {c : UInt8} (h : isBlk c = true) : isOther c := by
  simp only [isOther, isBlk, isDig, isLet, Bool.or_eq_true, beq_iff_eq, Bool.and_eq_false_iff, decide_eq_false_iff_not] at *; omega
theorem sgn_other {c : UInt8} (h : isSgn c = true) : isOther c := by
  simp only [isOther, isSgn, isDig, isLet, Bool.or_eq_true, beq_iff_eq, Bool.and_eq_false_iff, decide_eq_false_iff_not] at *; omega
theorem takeWhile_row {q : UInt8 → Bool} : ∀ (t rest : Bytes), (∀ c ∈ t, q c = true) → (∀ c r, rest = c :: r → q c = false) → (t ++ rest).takeWhile q = t
  | [], [], _, _ => rfl
  | [], c :: r, _, h => by simp [h c r rfl]
  | a :: t, rest, h1, h2 => by
    have ih := takeWhile_row t rest (fun c hc => h1 c (by simp [hc])) h2
    simp [h1 a (by simp), ih]
theorem rowEnd_row {q : UInt8 → Bool} (p t rest : Bytes) (h1 : ∀ c ∈ t, q c = true) (h2 : ∀ c r, rest = c :: r → q c = false) : rowEnd q (p ++ (t ++ rest)) p.length = p.length + t.length := by
  unfold rowEnd; rw [drop_at, takeWhile_row t rest h1 h2]
theorem tokEnd_tk {p t rest : Bytes} (ht : Tk t) (he : Ends t rest) : tokEnd (p ++ (t ++ rest)) p.length = p.length + t.length := by
  induction t, ht using Tk_ind with
  | sign c h =>
    have hl : p.length < (p ++ ([c] ++ rest)).length := by simp
    unfold tokEnd
    rw [dif_pos hl]
    have e : (p ++ ([c] ++ rest))[p.length]'hl = c := get_at p c rest hl
    rw [e, if_pos h]; rfl
  | digits t h0 h2 h =>
    obtain ⟨a, t', rfl⟩ := List.exists_cons_of_ne_nil h0
    have ha := h a (by simp)
    have hl : p.length < (p ++ (a :: t' ++ rest)).length := by simp
    have e : (p ++ (a :: t' ++ rest))[p.length]'hl = a := get_at p a (t' ++ rest) hl
    have hr : ∀ c r, rest = c :: r → isDig c = false := by
      rcases he with ⟨c, hc, hs⟩ | he
      · have : a = c := by simpa using congrArg (fun l => l.head?) hc
        subst this; rw [sgn_dig hs] at ha; cases ha
      · exact fun c r hr => (he c r hr).1
    have hre := rowEnd_row (q := isDig) p (a :: t') rest h hr
    unfold tokEnd
    rw [dif_pos hl, e, isSgn_not_dig ha, hre]
    simp only [Bool.false_eq_true, if_false, ha, if_true]
    rw [if_neg (by omega)]
  | word t h0 h8 h =>
    obtain ⟨a, t', rfl⟩ := List.exists_cons_of_ne_nil h0
    have ha := h a (by simp)
    have hl : p.length < (p ++ (a :: t' ++ rest)).length := by simp
    have e : (p ++ (a :: t' ++ rest))[p.length]'hl = a := get_at p a (t' ++ rest) hl
    have hr : ∀ c r, rest = c :: r → isLet c = false := by
      rcases he with ⟨c, hc, hs⟩ | he
      · have : a = c := by simpa using congrArg (fun l => l.head?) hc
        subst this; rw [let_sgn ha] at hs; cases hs
      · exact fun c r hr => (he c r hr).2
    have hre := rowEnd_row (q := isLet) p (a :: t') rest h hr
    unfold tokEnd
    rw [dif_pos hl, e, let_sgn ha, hre]
    simp only [Bool.false_eq_true, if_false, ha, if_true, let_dig ha]
    rw [if_neg (by omega)]
theorem tk_blk {t : Bytes} (ht : Tk t) : ∃ a t', t = a :: t' ∧ isBlk a = false := by
  induction t, ht using Tk_ind with
  | sign c h => exact ⟨c, [], rfl, sgn_blk h⟩
  | digits t h0 h2 h => obtain ⟨a, t', rfl⟩ := List.exists_cons_of_ne_nil h0; exact ⟨a, t', rfl, dig_blk (h a (by simp))⟩
  | word t h0 h8 h => obtain ⟨a, t', rfl⟩ := List.exists_cons_of_ne_nil h0; exact ⟨a, t', rfl, let_blk (h a (by simp))⟩
/-- a text as it is written: blanks, a token, and so on -/
def flat : List (Bytes × Bytes) → Bytes
  | [] => []
  | (s, t) :: r => s ++ (t ++ flat r)
/-- blanks are blanks, tokens are tokens, and none runs on into the next -/
def Wrote : List (Bytes × Bytes) → Prop
  | [] => True
  | (s, t) :: r => (∀ c ∈ s, isBlk c = true) ∧ Tk t ∧ Ends t (flat r) ∧ Wrote r
def headDig (t : Bytes) : Bool := match t with | c :: _ => isDig c | [] => false
theorem lex_blanks : ∀ (s p x : Bytes), (∀ c ∈ s, isBlk c = true) → lexFrom (p ++ (s ++ x)) p.length = lexFrom (p ++ (s ++ x)) (p ++ s).length
  | [], p, x, _ => by simp
  | a :: s, p, x, h => by
    have hl : p.length < (p ++ (a :: s ++ x)).length := by simp
    have e : (p ++ (a :: s ++ x))[p.length]'hl = a := get_at p a (s ++ x) hl
    rw [lexFrom_blk hl (by rw [e]; exact h a (by simp))]
    have ih := lex_blanks s (p ++ [a]) x (fun c hc => h c (by simp [hc]))
    have e2 : p ++ (a :: s ++ x) = p ++ [a] ++ (s ++ x) := by simp
    have e3 : p.length + 1 = (p ++ [a]).length := by simp
    have e4 : p ++ a :: s = p ++ [a] ++ s := by simp
    rw [e2, e3, e4]; exact ih
theorem lex_flat : ∀ (I : List (Bytes × Bytes)) (p : Bytes), Wrote I →
    (lexFrom (p ++ flat I) p.length).2 = -1 ∧ (lexFrom (p ++ flat I) p.length).1.map (fun t => (t.text, t.num)) = I.map (fun i => (i.2, headDig i.2))
  | [], p, _ => by
    rw [lexFrom_end (by simp [flat])]; simp
  | (s, t) :: r, p, h => by
    obtain ⟨hs, ht, he, hr⟩ := h
    obtain ⟨a, t', hta, hab⟩ := tk_blk ht
    simp only [flat]
    rw [lex_blanks s p _ hs]
    have hl : (p ++ s).length < (p ++ s ++ (t ++ flat r)).length := by simp [hta]
    have e0 : p ++ (s ++ (t ++ flat r)) = p ++ s ++ (t ++ flat r) := by simp
    have e : (p ++ s ++ (t ++ flat r))[(p ++ s).length]'hl = a := by
      have := get_at (p ++ s) a (t' ++ flat r) (by simp)
      simp only [hta]
      exact this
    have htk := tokEnd_tk (p := p ++ s) ht he
    have htl : 0 < t.length := by simp [hta]
    rw [e0]
    rw [lexFrom_tok hl (by rw [e]; exact hab) (by rw [htk]; omega)]
    have ih := lex_flat r (p ++ s ++ t) hr
    have e1 : p ++ s ++ (t ++ flat r) = p ++ s ++ t ++ flat r := by simp
    have e2 : (p ++ s).length + t.length = (p ++ s ++ t).length := (List.length_append (as := p ++ s) (bs := t)).symm
    rw [htk]
    rw [e2]
    have e3 : ((p ++ s ++ (t ++ flat r)).take (p ++ s ++ t).length).drop (p ++ s).length = t := by
      rw [e1, List.take_left' rfl]; exact drop_at (p ++ s) t
    refine ⟨?_, ?_⟩
    · simp only [e1]; exact ih.1
    · simp only [List.map_cons, e3, e]
      rw [e1, ih.2, hta]; rfl
end Pq
end Go.Proofs.YtcoofnhdbejnpaaGreatDoor

/- Plain functions: how long the texts become. -/
namespace Go.Proofs.YtcoofnhdbejnpaaGreatDoor
namespace Pk
open Pq (Bytes)
def Ln (n : Nat) (x : TS) : Prop := x.raw.length ≤ n ∧ x.plain.length ≤ n
theorem Ln.mono {n m : Nat} {x : TS} (h : Ln n x) (hm : n ≤ m) : Ln m x := ⟨Nat.le_trans h.1 hm, Nat.le_trans h.2 hm⟩
theorem Ln.eat {n : Nat} {x : TS} (h : Ln n x) (l : Bytes) : Ln n (x.eat l) := h
theorem Ln.word {n : Nat} {x : TS} (h : Ln n x) (l t : Bytes) {k : Nat} (ht : t.length ≤ k) : Ln (n + (k + 3)) (wordS l t x) := by
  have h1 := h.1; have h2 := h.2
  have hp : (pre x).length ≤ 1 := by unfold pre; split <;> simp
  have hq : (if nxt l x.a 6 = 1 then ([10, 32] : Bytes) else []).length ≤ 2 := by split <;> simp
  constructor <;> simp only [wordS, List.length_append] <;> omega
theorem Ln.glued {n : Nat} {x : TS} (h : Ln n x) (l t : Bytes) {k : Nat} (ht : t.length ≤ k) : Ln (n + (k + 1)) (gluedS l t x) := by
  have h1 := h.1; have h2 := h.2
  have hq : (if nxt l x.a 4 = 1 then ([32] : Bytes) else []).length ≤ 1 := by split <;> simp
  constructor <;> simp only [gluedS, List.length_append] <;> omega
theorem numTxt_small {k : Nat} (h : k < 10) : (Pq.numTxt (k : Int)).length = 1 := by unfold Pq.numTxt; rw [if_pos (by omega)]; rfl
theorem Ln.number {n : Nat} {x : TS} (h : Ln n x) (l : Bytes) (k : Nat) (b : Bool) : Ln (n + 3) (numberS l k b x) := by
  have h1 := h.1; have h2 := h.2
  have hb : (blankB b).length ≤ 1 := by unfold blankB; split <;> simp
  have hq := Pq.numTxt_len (k : Int)
  by_cases hk : k < 10
  · have hn : (nought l k x).length ≤ 1 := by unfold nought; split <;> simp
    have := numTxt_small hk
    constructor <;> simp only [numberS, List.length_append] <;> omega
  · have hn : nought l k x = [] := by unfold nought; rw [if_neg (by omega)]
    constructor <;> simp only [numberS, List.length_append, hn, List.length_nil] <;> omega
theorem colW_len (j : Nat) : (colW j).length = 1 := by unfold colW; split <;> rfl
theorem edgeW_len (j : Nat) : (edgeW j).length ≤ 5 := by unfold edgeW; split <;> simp [Pq.wStart, Pq.wEnd, Pq.wHere, Pq.wBack, Pq.wOn]
theorem Ln.desc {n : Nat} {x : TS} (h : Ln n x) (l : Bytes) (keys : Bool) : Ln (n + 7) (descS l keys x) := by
  unfold descS
  repeat' split
  · exact ((h.eat l).word l _ (k := 4) (by simp))
  · exact (h.eat l).mono (by omega)
  · exact h.mono (by omega)
theorem Ln.comma {n : Nat} {x : TS} (h : Ln n x) (l : Bytes) (i : Nat) : Ln (n + 2) (commaS l i x) := by
  unfold commaS; split
  · exact h.glued l _ (k := 1) (by simp)
  · exact h.mono (by omega)
theorem Ln.colStep {n : Nat} {x : TS} (h : Ln n x) (l : Bytes) (keys : Bool) (a i : Nat) : Ln (n + 13) (colStep l keys a i x) := by
  unfold Pk.colStep
  exact (((h.comma l i).word l (colW (a + i)) (k := 1) (by rw [colW_len]; omega)).desc l keys).mono (by omega)
theorem Ln.colsTo {n : Nat} {x : TS} (h : Ln n x) (l : Bytes) (keys : Bool) (a : Nat) : ∀ k, Ln (n + 13 * k) (colsTo l keys a k x)
  | 0 => h
  | k + 1 => ((Ln.colsTo h l keys a k).colStep l keys a k).mono (by omega)
theorem Ln.cols {n : Nat} {x : TS} (h : Ln n x) (l : Bytes) (keys : Bool) : Ln (n + 39) (colsS l keys x) := by
  have := nxt_lt l (adv l x.a) 3 (by omega)
  exact (Ln.colsTo (((h.eat l).eat l)) l keys _ _).mono (by omega)
theorem Ln.edge {n : Nat} {x : TS} (h : Ln n x) (l : Bytes) : Ln (n + 11) (edgeS l x) := by
  unfold edgeS; split
  · exact ((h.eat l).word l _ (edgeW_len _)).mono (by omega)
  · exact (((h.eat l).eat l).number l _ _).word l _ (edgeW_len _)
theorem Ln.frame {n : Nat} {x : TS} (h : Ln n x) (l : Bytes) : Ln (n + 27) (frameS l x) := by
  unfold frameS nearS betweenS
  repeat' split
  · exact ((h.eat l).word l Pq.wAll (k := 3) (by simp [Pq.wAll])).mono (by omega)
  · exact (((h.eat l).eat l).word l Pq.wPeers (k := 5) (by simp [Pq.wPeers])).mono (by omega)
  · exact (((((h.eat l).eat l).eat l).word l Pq.wNear (k := 4) (by simp [Pq.wNear])).eat l |>.number l _ _).mono (by omega)
  · exact ((((((h.eat l).eat l).eat l).edge l).word l Pq.wTo (k := 2) (by simp [Pq.wTo])).edge l).mono (by omega)
theorem Ln.colArg {n : Nat} {x : TS} (h : Ln n x) (l : Bytes) : Ln (n + 6) (colArg l x) := by
  unfold Pk.colArg
  exact ((((h.glued l [40] (k := 1) (by simp)).eat l).glued l (colW _) (k := 1) (by rw [colW_len]; omega)).glued l [44] (k := 1) (by simp)).mono (by omega)
theorem Ln.fn {n : Nat} {x : TS} (h : Ln n x) (l : Bytes) : Ln (n + 44) (funS l x) := by
  have hy := (h.eat l).word l (Pq.kindTxt (nxt l x.a 12)) (Pq.kindTxt_len _)
  unfold funS
  simp only
  repeat' split
  · exact hy.mono (by omega)
  · unfold tileS
    exact ((((hy.glued l [40] (k := 1) (by simp)).eat l).number l _ _).glued l [41] (k := 1) (by simp)).mono (by omega)
  · unfold lagS
    exact ((((hy.colArg l).eat l).number l _ _).glued l [41] (k := 1) (by simp)).mono (by omega)
  · exact (((hy.colArg l).frame l).glued l [41] (k := 1) (by simp)).mono (by omega)
theorem Ln.funsTo {n : Nat} {x : TS} (h : Ln n x) (l : Bytes) : ∀ k, Ln (n + 46 * k) (funsTo l k x)
  | 0 => h
  | k + 1 => (((Ln.funsTo h l k).comma l k).fn l).mono (by omega)
end Pk
end Go.Proofs.YtcoofnhdbejnpaaGreatDoor

/- Plain functions: the end of a query, in steps. -/
namespace Go.Proofs.YtcoofnhdbejnpaaGreatDoor
namespace Pk
open Pq (Bytes)
def top5 (l : Bytes) (z : TS) : TS := numberS l (nxt l z.a 3) true (wordS l [102, 114, 111, 109] (z.eat l))
def top4 (l : Bytes) (z : TS) : TS := if nxt l z.a 3 = 0 then { top5 l z with plain := (top5 l z).plain.take ((top5 l z).plain.length - 7) } else top5 l z
def top3 (l : Bytes) (y : TS) : TS := top4 l (numberS l (nxt l y.a 6) true (y.eat l))
theorem numTxt_pos (n : Int) : 1 ≤ (Pq.numTxt n).length := by unfold Pq.numTxt; split <;> simp
theorem top5_len (l : Bytes) (z : TS) (h : z.plain ≠ []) : 7 ≤ (top5 l z).plain.length := by
  have hp : (pre (z.eat l)) = [32] := by unfold pre TS.eat; rw [if_neg h]
  have h1 := numTxt_pos (nxt l z.a 3 : Int)
  have h2 : 1 ≤ z.plain.length := by cases hz : z.plain with | nil => exact absurd hz h | cons => simp
  simp only [top5, numberS, wordS, hp, List.length_append, blankB, if_true, List.length_cons, List.length_nil]
  simp only [TS.eat]
  omega
end Pk
end Go.Proofs.YtcoofnhdbejnpaaGreatDoor

