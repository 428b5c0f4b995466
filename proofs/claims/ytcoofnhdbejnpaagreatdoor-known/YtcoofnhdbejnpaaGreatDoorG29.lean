/- Package tables: total, List, checkBatch. -/
import Derived.Test.YtcoofnhdbejnpaaGreatDoorG03
import Derived.Test.YtcoofnhdbejnpaaGreatDoorG28
import Derived.Deep.AppendLies
import Derived.Deep.RegionLaw
namespace Go.Proofs.YtcoofnhdbejnpaaGreatDoor
open Go.RowKit
set_option maxRecDepth 100000 in
set_option maxHeartbeats 1000000 in
theorem ttotal_any {w : World} {b : Nat} {v : Value} {l : List Pv.Chg} (hb : w.heap[b]? = some (.cells #[v] 146 (0, 0))) (hv : RdC w v l) (hl : l.length ≤ 1000) (hbd : ∀ c ∈ l, -1000000 ≤ c.2 ∧ c.2 ≤ 1000000) :
    Calls Tryz.prog 78 #[.pointer (some ⟨b, 0, none⟩)] w fun e w' => e = .returned (.int .i64 (Pv.totalF l)) ∧ w' = w := by
  have HV := hide hv
  have HBD := hide hbd
  obtain ⟨av, nv, cv, rfl⟩ : ∃ a n c, v = .slice a n c := by
    rcases hv.form with ⟨h, _⟩ | ⟨g, off, cap, h, _⟩
    · exact ⟨_, _, _, h⟩
    · exact ⟨_, _, _, h⟩
  obtain rfl := hv.len
  have q0 : w.cell? ⟨b, 0, none⟩ = some (.slice av l.length cv) := cell_of_heap hb 0
  clear hv hbd hb
  go_enter Tryz.func78, Tryz.ntmps78
  go_wp2
  go_loop [3, 4] (fun n i => ∃ k : Nat, k ≤ l.length ∧ i = .int .i64 k ∧ n = .int .i64 (Pv.totalF (l.take k))) (fun _ i => l.length - (intOf i).toNat)
  case atStart => exact ⟨0, by omega, rfl, rfl⟩
  case round =>
    obtain ⟨k, hk, rfl, rfl⟩ := hrel
    by_cases hlt : k < l.length
    · have hlt' : (k : Int) < (l.length : Int) := by omega
      obtain ⟨g, off, cap, e, hcap⟩ := HV.out.form1 (by omega)
      cases e
      obtain ⟨c0, c1, c2, c3⟩ := HV.out.cell k hlt
      have HT := hide (Pv.total_take l k hlt)
      obtain ⟨n1, n2⟩ := HBD.out l[k] (List.getElem_mem hlt)
      have htb := Pv.total_bd (t := l.take k) (b := 1000000) (fun c hc => HBD.out c (List.mem_of_mem_take hc))
      rw [List.length_take] at htb
      have t1 : -2000000000 ≤ Pv.totalF (l.take k) := by omega
      have t2 : Pv.totalF (l.take k) ≤ 2000000000 := by omega
      clear htb
      generalize Pv.totalF (l.take k) = s at *
      go_wp2
      go_round
      case rel => exact ⟨k + 1, by omega, by go_num, by rw [HT.out]⟩
      case measure => simp [intOf]; omega
    · have hlt' : ¬ (k : Int) < (l.length : Int) := by omega
      have HE : Hid (Pv.totalF (l.take k) = Pv.totalF l) := by show _ = _; rw [List.take_of_length_le (by omega)]
      go_wp2
      go_ret
      exact ⟨by rw [← HE.out]; rfl, rfl⟩
set_option maxRecDepth 100000 in
set_option maxHeartbeats 1000000 in
theorem tlist_any {w : World} {v : Value} {l : List Pv.Chg} (hv : RdC w v l) (hl : l.length ≤ 1000) :
    Calls Tryz.prog 60 #[.agg #[v]] w fun e w' => Below w.heap.size w w' ∧ ∃ u, e = .returned u ∧ w'.ownsRow w.heap.size 50 4 u l.length (rchgs l) := by
  obtain ⟨i0, hi, hz0, hz1, hz2⟩ := info_parts infoChg
  have HV := hide hv
  obtain ⟨av, nv, cv, rfl⟩ : ∃ a n c, v = .slice a n c := by
    rcases hv.form with ⟨h, _⟩ | ⟨g, off, cap, h, _⟩
    · exact ⟨_, _, _, h⟩
    · exact ⟨_, _, _, h⟩
  obtain rfl := hv.len
  clear hv
  go_enter Tryz.func60, Tryz.ntmps60
  go_upto_region 1 with fail
  have C0 := hide (K1.start w #[.slice av l.length cv] 106)
  generalize w.alloc (.cells #[.slice av l.length cv] 106) = w0 at *
  go_wp2
  go_loopw [3, 4] (fun o i wr => ∃ k : Nat, k ≤ l.length ∧ i = .int .i64 k ∧ wr.ownsRow w0.heap.size 50 4 o k (rchgs (l.take k)) ∧ Below w0.heap.size w0 wr) (fun _ i _ => l.length - (intOf i).toNat)
  case atStart => exact ⟨0, by omega, rfl, World.ownsRow_nil _ _ _ _, Below.refl _ _⟩
  case round =>
    obtain ⟨k, hk, rfl, hown, hbe⟩ := hrel
    have O1 := hide hown
    have B1 := hide hbe
    clear hown hbe
    have q0 : wr.cell? ⟨w.heap.size, 0, none⟩ = some (.slice av l.length cv) := cell_of_heap (C0.out.below B1.out).a 0
    by_cases hlt : k < l.length
    · have hlt' : (k : Int) < (l.length : Int) := by omega
      obtain ⟨g, off, cap, e, hcap⟩ := HV.out.form1 (by omega)
      cases e
      obtain ⟨c0, c1, c2, c3⟩ := (HV.out.below (C0.out.below B1.out).bl).cell k hlt
      have HT : Hid (rchgs (l.take (k + 1)) = rchgs (l.take k) ++ rchg l[k]) := by
        show _ = _
        rw [List.take_succ_eq_append_getElem hlt, rchgs_snoc]
      have hs1 := B1.out.size
      go_wp2_with (at_builtin; refine wpList_append_own_at _ rfl (.tmp 12) (.tmp 18) 40 rfl w0.heap.size 50 i0 _ 4 32 Tryz.underlying40 hi hz0 hz1 hz2 rfl (by decide) _ k (rchgs (l.take k)) rfl (O1.out.alloc _) _ 1 1 (rchg l[k]) rfl rfl (World.news_of_block (heap_alloc_new _ _)) (by intro u hu; simp [rchg] at hu; rcases hu with rfl | rfl | rfl | rfl <;> rfl) (by unfold maxLen; omega) (by omega) (by simp; omega) ?_; intro v8 w8 hown8 hgrow8 hnil8 hat8; have b8 : Below w0.heap.size w0 w8 := (B1.out.alloc hs1 _).grown hgrow8 (by simp; omega) (fun k hk => (O1.out.lt k hk).1); have O8 := hide hown8; clear hown8 hgrow8 hnil8 hat8)
      go_roundw
      case rel =>
        refine ⟨k + 1, by omega, by go_num, ?_, b8⟩
        rw [HT.out]; exact O8.out
      case measure => simp [intOf]; omega
    · have hlt' : ¬ (k : Int) < (l.length : Int) := by omega
      obtain rfl : k = l.length := by omega
      rw [List.take_length] at O1
      go_wp2
      go_ret
      exact ⟨(C0.out.below B1.out).bl, _, rfl, own_base2 O1.out C0.out.bl.size⟩
end Go.Proofs.YtcoofnhdbejnpaaGreatDoor

/- Package tables: checkBatch. -/
namespace Go.Proofs.YtcoofnhdbejnpaaGreatDoor
open Go.RowKit
/-- what checkBatch answers -/
def Pv.chkB (l : List Pv.Chg) : Int × Nat := if 50 < l.length then (1, 0) else match Pv.scanF 0 l with | some x => x | none => (0, 0)
theorem scan_at (l : List Pv.Chg) (k : Nat) (h : k < l.length) : Pv.scanF k (l.drop k) = if Pv.chk l[k] ≠ 0 then some (Pv.chk l[k], k) else Pv.scanF (k + 1) (l.drop (k + 1)) := by
  rw [Pv.scan_drop l k h]
  unfold Pv.chk
  cases Pv.rowOk l[k].1
  · simp
  · cases Pv.cntOk l[k].2 <;> simp
set_option maxRecDepth 100000 in
set_option maxHeartbeats 1000000 in
theorem checkBatch_any {w : World} {v : Value} {l : List Pv.Chg} (hv : RdC w v l) (hl : l.length ≤ 4000000000000000000) :
    Calls Tryz.prog 75 #[v] w fun e w' => e = .returned (.tuple #[.int .i64 (Pv.chkB l).1, .int .i64 ((Pv.chkB l).2 : Nat)]) ∧ Below w.heap.size w w' := by
  have HV := hide hv
  obtain ⟨av, nv, cv, rfl⟩ : ∃ a n c, v = .slice a n c := by
    rcases hv.form with ⟨h, _⟩ | ⟨g, off, cap, h, _⟩
    · exact ⟨_, _, _, h⟩
    · exact ⟨_, _, _, h⟩
  obtain rfl := hv.len
  clear hv
  go_enter Tryz.func75, Tryz.ntmps75
  by_cases h50 : 50 < l.length
  · have h50' : (50 : Int) < (l.length : Int) := by omega
    have HC : Hid (Pv.chkB l = (1, 0)) := by show _ = _; unfold Pv.chkB; rw [if_pos h50]
    go_wp2
    go_ret2
    exact ⟨by rw [HC.out]; rfl, Below.refl _ _⟩
  · have h50' : ¬ (50 : Int) < (l.length : Int) := by omega
    have HC : Hid (Pv.chkB l = match Pv.scanF 0 (l.drop 0) with | some x => x | none => (0, 0)) := by show _ = _; unfold Pv.chkB; rw [if_neg h50]; rfl
    go_wp2
    go_loopw [4] (fun i wr => ∃ k : Nat, k ≤ l.length ∧ i = .int .i64 k ∧ Below w.heap.size w wr ∧ Hid (Pv.scanF 0 (l.drop 0) = Pv.scanF k (l.drop k))) (fun i _ => l.length - (intOf i).toNat)
    case atStart => exact ⟨0, by omega, rfl, Below.refl _ _, rfl⟩
    case round =>
      obtain ⟨k, hk, rfl, hbe, HK⟩ := hrel
      have B1 := hide hbe
      clear hbe
      by_cases hlt : k < l.length
      · have hlt' : (k : Int) < (l.length : Int) := by omega
        obtain ⟨g, off, cap, e, hcap⟩ := HV.out.form1 (by omega)
        cases e
        obtain ⟨c0, c1, c2, c3⟩ := (HV.out.below B1.out).cell k hlt
        have HS := hide (scan_at l k hlt)
        go_wp2_with fail
        refine (checkChange_any _ _ _ _ _).mono ?_
        rintro e w3 ⟨rfl, e3⟩
        have B3 := hide (B1.out.trans (e3.mono B1.out.size))
        have HCK : Hid (Pv.chk ((l[k].1.1, l[k].1.2.1, l[k].1.2.2), l[k].2) = Pv.chk l[k] ∨ False) := .inl rfl
        have hck : Pv.chk ((l[k].1.1, l[k].1.2.1, l[k].1.2.2), l[k].2) = Pv.chk l[k] := rfl
        rw [hck]
        clear hck HCK e3 c0 c1 c2 c3
        generalize Pv.chk l[k] = ck at *
        by_cases hz : ck = 0
        · have hzb : (ck != 0) = false := by simp [hz]
          rw [if_neg (by simp [hz])] at HS
          clear hz
          go_wp2
          go_roundw
          case rel => exact ⟨k + 1, by omega, by go_num, B3.out, HK.out.trans HS.out⟩
          case measure => simp [intOf]; omega
        · have hzb : (ck != 0) = true := by simp [hz]
          rw [if_pos hz] at HS
          clear hz
          go_wp2
          go_ret2
          exact ⟨by rw [HC.out, HK.out, HS.out]; rfl, B3.out⟩
      · have hlt' : ¬ (k : Int) < (l.length : Int) := by omega
        have HE : Hid (Pv.scanF k (l.drop k) = none) := by show _ = _; rw [List.drop_eq_nil_of_le (by omega)]; rfl
        go_wp2
        go_ret2
        exact ⟨by rw [HC.out, HK.out, HE.out]; rfl, B1.out⟩
end Go.Proofs.YtcoofnhdbejnpaaGreatDoor

/- Package tables: add, where the row is there. -/
namespace Go.Proofs.YtcoofnhdbejnpaaGreatDoor
open Go.RowKit
theorem set_same {α : Type} {l : List α} {i : Nat} {a : α} (h : l[i]? = some a) : l.set i a = l := by
  apply List.ext_getElem?
  intro j
  rw [List.getElem?_set]
  split
  · rename_i e
    subst e
    split
    · exact h.symm
    · rename_i hn
      rw [List.getElem?_eq_none (by omega)] at h
      cases h
  · rfl
theorem rchgs_set3 (l : List Pv.Chg) (k : Nat) (h : k < l.length) (m : Int) : rchgs (l.set k (l[k].1, m)) = (rchgs l).set (k * 4 + 3) (.int .i64 m) := by
  obtain ⟨h0, h1, h2, _⟩ := rchgs_get l k h
  rw [rchgs_set l k _ h]
  show ((((rchgs l).set (k * 4) (.int .i64 l[k].1.1)).set (k * 4 + 1) (.int .i64 l[k].1.2.1)).set (k * 4 + 2) (.int .i64 l[k].1.2.2)).set (k * 4 + 3) (.int .i64 m) = _
  rw [set_same h0, set_same h1, set_same h2]
/-- the rows as they stand while room is made, down to the place i -/
def shiftL (l : List Pv.Chg) (c : Pv.Chg) (i : Nat) : List Pv.Chg := (l ++ [c]).take (i + 1) ++ l.drop i
theorem shiftL_len (l : List Pv.Chg) (c : Pv.Chg) (i : Nat) (h : i ≤ l.length) : (shiftL l c i).length = l.length + 1 := by
  simp [shiftL]; omega
theorem shiftL_top (l : List Pv.Chg) (c : Pv.Chg) : shiftL l c l.length = l ++ [c] := by
  unfold shiftL; rw [List.drop_length, List.append_nil, List.take_of_length_le (by simp)]
theorem shiftL_get (l : List Pv.Chg) (c : Pv.Chg) (i : Nat) (h : i < l.length) : (shiftL l c (i + 1))[i]? = some l[i] := by
  unfold shiftL
  rw [List.getElem?_append_left (by simp; omega), List.getElem?_take_of_lt (by omega), List.getElem?_append_left h, List.getElem?_eq_getElem h]
theorem shiftL_step (l : List Pv.Chg) (c : Pv.Chg) (i : Nat) (h : i < l.length) : (shiftL l c (i + 1)).set (i + 1) l[i] = shiftL l c i := by
  unfold shiftL
  have e1 : (l ++ [c]).take (i + 1 + 1) = (l ++ [c]).take (i + 1) ++ [(l ++ [c])[i + 1]'(by simp; omega)] := List.take_succ_eq_append_getElem (by simp; omega)
  rw [e1, List.append_assoc, List.set_append_right _ _ (by simp; omega)]
  have e2 : i + 1 - ((l ++ [c]).take (i + 1)).length = 0 := by simp; omega
  rw [e2, List.drop_eq_getElem_cons h]
  rfl
theorem shiftL_end (l : List Pv.Chg) (c : Pv.Chg) (i : Nat) (h : i ≤ l.length) : (shiftL l c i).set i c = l.take i ++ c :: l.drop i := by
  unfold shiftL
  have e1 : (l ++ [c]).take (i + 1) = (l ++ [c]).take i ++ [(l ++ [c])[i]'(by simp; omega)] := List.take_succ_eq_append_getElem (by simp; omega)
  rw [e1, List.append_assoc, List.set_append_right _ _ (by simp; omega)]
  have e2 : i - ((l ++ [c]).take i).length = 0 := by simp; omega
  rw [e2, List.take_append_of_le_length h]
  rfl
set_option maxRecDepth 100000 in
set_option maxHeartbeats 2000000 in
theorem tadd_same {w : World} {b B : Nat} {v : Value} {l : List Pv.Chg} (hBb : B ≤ b) (hBw : B ≤ w.heap.size) (hb : w.heap[b]? = some (.cells #[v] 146 (0, 0))) (ho : w.ownsRow B 50 4 v l.length (rchgs l)) (hl : l.length ≤ 900) (hbd : ∀ c ∈ l, -100000000 ≤ c.2 ∧ c.2 ≤ 100000000) (p u q n : Int) (hn1 : -100000000 ≤ n) (hn2 : n ≤ 100000000) (hp : Pv.placeF (p, u, q) l < l.length) (he : l[Pv.placeF (p, u, q) l].1 = (p, u, q)) :
    Calls Tryz.prog 98 #[.pointer (some ⟨b, 0, none⟩), .agg #[.int .i64 p, .int .i64 u, .int .i64 q, .int .i64 n]] w fun e w' => e = .returned (.tuple #[]) ∧ Below B w w' ∧ ∃ v', w'.heap[b]? = some (.cells #[v'] 146 (0, 0)) ∧ w'.ownsRow B 50 4 v' (Pv.addF ((p, u, q), n) l).length (rchgs (Pv.addF ((p, u, q), n) l)) := by
  have HA := hide (Pv.addF_same (c := ((p, u, q), n)) hp he)
  have HB := hide hb
  have HO := hide ho
  obtain ⟨g, cv, rfl⟩ : ∃ g c, v = .slice (some ⟨g, 0, none⟩) l.length c := by
    rcases own_form ho with ⟨_, h⟩ | ⟨g, c, h⟩
    · omega
    · exact ⟨g, c, h⟩
  have hne : g ≠ b := by
    intro e
    subst e
    obtain ⟨cur, fz, h⟩ := own_type ho (k := g) rfl
    rw [hb] at h; cases h
  have hgl := (ho.lt g rfl)
  have HBD := hide hbd
  clear hb ho hbd
  go_enter Tryz.func98, Tryz.ntmps98
  go_upto_region 1 with fail
  have C0 := hide (K1.start w #[.int .i64 p, .int .i64 u, .int .i64 q, .int .i64 n] 50)
  generalize w.alloc (.cells #[.int .i64 p, .int .i64 u, .int .i64 q, .int .i64 n] 50) = w0 at *
  have HB0 : Hid (w0.heap[b]? = some (.cells #[.slice (some ⟨g, 0, none⟩) l.length cv] 146 (0, 0))) := Blk.below HB.out C0.out.bl
  have O0 := hide (own_below HO.out C0.out.bl)
  have r0 : w0.cell? ⟨w.heap.size, 0, none⟩ = some (.int .i64 p) := cell_of_heap C0.out.a 0
  have r1 : w0.cell? ⟨w.heap.size, 1, none⟩ = some (.int .i64 u) := cell_of_heap C0.out.a 1
  have r2 : w0.cell? ⟨w.heap.size, 2, none⟩ = some (.int .i64 q) := cell_of_heap C0.out.a 2
  go_wp2_with fail
  refine (tplace_any HB0.out (RdC.ofOwn O0.out) (by omega) p u q).mono ?_
  rintro e w1 ⟨rfl, e1⟩
  have C1 := hide (C0.out.below e1)
  have HB1 : Hid (w1.heap[b]? = some (.cells #[.slice (some ⟨g, 0, none⟩) l.length cv] 146 (0, 0))) := Blk.below HB0.out e1
  have O1 := hide (own_below O0.out e1)
  clear r0 r1 r2 e1 HB0 O0
  have r0 : w1.cell? ⟨w.heap.size, 0, none⟩ = some (.int .i64 p) := cell_of_heap C1.out.a 0
  have r1 : w1.cell? ⟨w.heap.size, 1, none⟩ = some (.int .i64 u) := cell_of_heap C1.out.a 1
  have r2 : w1.cell? ⟨w.heap.size, 2, none⟩ = some (.int .i64 q) := cell_of_heap C1.out.a 2
  have r3 : w1.cell? ⟨w.heap.size, 3, none⟩ = some (.int .i64 n) := cell_of_heap C1.out.a 3
  have q0 : w1.cell? ⟨b, 0, none⟩ = some (.slice (some ⟨g, 0, none⟩) l.length cv) := cell_of_heap HB1.out 0
  generalize Pv.placeF (p, u, q) l = k at *
  have hlt' : (k : Int) < (l.length : Int) := by omega
  obtain ⟨c0, c1, c2, c3⟩ := (RdC.ofOwn O1.out).cell k hp
  simp only [Nat.zero_add] at c0 c1 c2 c3
  have h1 : l[k].1.1 = p := by rw [he]
  have h2 : l[k].1.2.1 = u := by rw [he]
  have h3 : l[k].1.2.2 = q := by rw [he]
  rw [h1] at c0
  rw [h2] at c1
  rw [h3] at c2
  obtain ⟨n1, n2⟩ := HBD.out l[k] (List.getElem_mem hp)
  have f3 := own_free O1.out (k * 4 + 3)
  have HR3 := hide (rchgs_set3 l k hp (l[k].2 + n))
  rw [he] at HR3
  clear he h1 h2 h3
  go_wp2
  go_quiet (fail)
  have C2 : Hid (K1 w (w1.drewN nq) #[.int .i64 p, .int .i64 u, .int .i64 q, .int .i64 n] 50) := ⟨C1.out.a, below_drewM C1.out.bl nq⟩
  have HB2 : Hid ((w1.drewN nq).heap[b]? = some (.cells #[.slice (some ⟨g, 0, none⟩) l.length cv] 146 (0, 0))) := HB1.out
  have O2 := hide (own_drewN O1.out nq)
  clear r0 r1 r2 r3 q0 c0 c1 c2 c3 f3 C1 HB1 O1
  generalize w1.drewN nq = w2 at *
  have r3 : w2.cell? ⟨w.heap.size, 3, none⟩ = some (.int .i64 n) := cell_of_heap C2.out.a 3
  have q0 : w2.cell? ⟨b, 0, none⟩ = some (.slice (some ⟨g, 0, none⟩) l.length cv) := cell_of_heap HB2.out 0
  have c3 := ((RdC.ofOwn O2.out).cell k hp).2.2.2
  simp only [Nat.zero_add] at c3
  have f3 := own_free O2.out (k * 4 + 3)
  go_upto_region 3 with fail
  go_still_tail 13, (by kernel_rfl)
  go_wp2
  (try simp only [Exit.inBlock, Exit.then])
  refine bodyPost_ret (results_none rfl _ _ _) rfl ?_
  refine ⟨rfl, below_dB ((C2.out.bl.mono hBw).setCell (p := ⟨g, k * 4 + 3, none⟩) hgl.1 _), .slice (some ⟨g, 0, none⟩) l.length cv, ?_, ?_⟩
  · show (w2.setCell ⟨g, k * 4 + 3, none⟩ (.int .i64 (l[k].2 + n))).heap[b]? = _
    rw [set_far _ _ _ _ b (Ne.symm hne)]; exact HB2.out
  · rw [HA.out, List.length_set, HR3.out]
    exact World.ownsRow.drew (World.ownsRow.stored O2.out (k * 4 + 3) _).1
end Go.Proofs.YtcoofnhdbejnpaaGreatDoor

/- Package tables: add, where the row is new. -/
namespace Go.Proofs.YtcoofnhdbejnpaaGreatDoor
open Go.RowKit
theorem wrap_id2 {x : Int} (h1 : -4000000000000000000 ≤ x) (h2 : x ≤ 4000000000000000000) : IntKind.i64.wrap x = x := by
  rw [IntKind.wrap_i64]; omega
/-- behind the append and the store of the list -/
structure PW (w wy : World) (b B g6 cap6 : Nat) (L : List Pv.Chg) (cs : Array Value) : Prop where
  hb : wy.heap[b]? = some (.cells #[.slice (some ⟨g6, 0, none⟩) L.length cap6] 146 (0, 0))
  own : wy.ownsRow B 50 4 (.slice (some ⟨g6, 0, none⟩) L.length cap6) L.length (rchgs L)
  box : Blk wy w.heap.size cs 50
  bel : Below B w wy
  n1 : g6 ≠ w.heap.size
  n2 : g6 ≠ b
  n3 : B ≤ g6
theorem push_facts {w w2 W w6 : World} {b B g6 cap6 H : Nat} {v : Value} {l : List Pv.Chg} {c : Pv.Chg} {cs : Array Value} (hBb : B ≤ b) (hBw : B ≤ w.heap.size) (hbl : b < w.heap.size) (C2 : K1 w w2 cs 50) (HB2 : w2.heap[b]? = some (.cells #[v] 146 (0, 0))) (HNE : ∀ k, v.ownBlock = some k → k ≠ b ∧ k < w.heap.size ∧ B ≤ k)
    (hW : Below w2.heap.size w2 W) (hg : W.grownBy w6 v.ownBlock) (hat : v.ownBlock = some g6 ∨ g6 = H) (hH : w2.heap.size ≤ H) (hown : w6.ownsRow B 50 4 (.slice (some ⟨g6, 0, none⟩) (l.length + 1) cap6) (l.length + 1) (rchgs l ++ rchg c)) :
    w6.heap[b]? = some (.cells #[v] 146 (0, 0)) ∧ PW w (w6.setCell ⟨b, 0, none⟩ (.slice (some ⟨g6, 0, none⟩) (l.length + 1) cap6)) b B g6 cap6 (l ++ [c]) cs := by
  have hs := C2.size
  have hb6 : w6.heap[b]? = some (.cells #[v] 146 (0, 0)) := by
    rw [hg.block b (Nat.lt_of_lt_of_le (by omega) hW.size) (fun e => (HNE b e.symm).1 rfl), hW.block b (by omega)]
    exact HB2
  have hx6 : Blk w6 w.heap.size cs 50 := by
    unfold Blk
    rw [hg.block _ (Nat.lt_of_lt_of_le hs hW.size) (fun e => by have := (HNE _ e.symm).2.1; omega), hW.block _ hs]
    exact C2.a
  have n2 : g6 ≠ b := by
    rcases hat with h | h
    · exact (HNE _ h).1
    · omega
  have n1 : g6 ≠ w.heap.size := by
    rcases hat with h | h
    · have := (HNE _ h).2.1; omega
    · omega
  have n3 : B ≤ g6 := by
    rcases hat with h | h
    · exact (HNE _ h).2.2
    · omega
  refine ⟨hb6, ⟨?_, ?_, ?_, ?_, n1, n2, n3⟩⟩
  · simp [World.setCell, Array.getElem?_modify, hb6]
  · rw [rchgs_snoc, List.length_append]
    exact hown.kept (grown_set w6 b 0 _) (.inr (fun e => n2 (by cases e; rfl)))
  · unfold Blk
    rw [set_far _ _ _ _ _ (by omega)]
    exact hx6
  · have h2 : Below B w W := (C2.bl.mono hBw).trans (hW.mono (Nat.le_trans hBw C2.bl.size))
    exact (h2.grown hg (Nat.le_trans (Nat.le_trans hBw C2.bl.size) hW.size) (fun k hk => (HNE k hk).2.2)).setCell (p := ⟨b, 0, none⟩) hBb _
theorem PW.set4 {w wy : World} {b B g6 cap6 : Nat} {L : List Pv.Chg} {cs : Array Value} (h : PW w wy b B g6 cap6 L cs) (j : Nat) (hj : j < L.length) (c : Pv.Chg) :
    PW w ((((wy.setCell ⟨g6, j * 4, none⟩ (.int .i64 c.1.1)).setCell ⟨g6, j * 4 + 1, none⟩ (.int .i64 c.1.2.1)).setCell ⟨g6, j * 4 + 2, none⟩ (.int .i64 c.1.2.2)).setCell ⟨g6, j * 4 + 3, none⟩ (.int .i64 c.2)) b B g6 cap6 (L.set j c) cs := by
  refine ⟨?_, ?_, ?_, ?_, h.n1, h.n2, h.n3⟩
  · rw [set_far _ _ _ _ b (Ne.symm h.n2), set_far _ _ _ _ b (Ne.symm h.n2), set_far _ _ _ _ b (Ne.symm h.n2), set_far _ _ _ _ b (Ne.symm h.n2), List.length_set]
    exact h.hb
  · rw [List.length_set]
    exact own_set4G h.own j hj c
  · unfold Blk
    rw [set_far _ _ _ _ _ (Ne.symm h.n1), set_far _ _ _ _ _ (Ne.symm h.n1), set_far _ _ _ _ _ (Ne.symm h.n1), set_far _ _ _ _ _ (Ne.symm h.n1)]
    exact h.box
  · exact (((h.bel.setCell (p := ⟨g6, j * 4, none⟩) h.n3 _).setCell (p := ⟨g6, j * 4 + 1, none⟩) h.n3 _).setCell (p := ⟨g6, j * 4 + 2, none⟩) h.n3 _).setCell (p := ⟨g6, j * 4 + 3, none⟩) h.n3 _
theorem PW.drew {w wy : World} {b B g6 cap6 : Nat} {L : List Pv.Chg} {cs : Array Value} (h : PW w wy b B g6 cap6 L cs) : PW w wy.drew b B g6 cap6 L cs := ⟨h.hb, h.own, h.box, below_dB h.bel, h.n1, h.n2, h.n3⟩
set_option maxRecDepth 100000 in
set_option maxHeartbeats 4000000 in
theorem tadd_new {w : World} {b B : Nat} {v : Value} {l : List Pv.Chg} (hBb : B ≤ b) (hBw : B ≤ w.heap.size) (hb : w.heap[b]? = some (.cells #[v] 146 (0, 0))) (ho : w.ownsRow B 50 4 v l.length (rchgs l)) (hl : l.length ≤ 900) (p u q n : Int) (hnew : ∀ hl : Pv.placeF (p, u, q) l < l.length, l[Pv.placeF (p, u, q) l].1 ≠ (p, u, q)) :
    Calls Tryz.prog 98 #[.pointer (some ⟨b, 0, none⟩), .agg #[.int .i64 p, .int .i64 u, .int .i64 q, .int .i64 n]] w fun e w' => e = .returned (.tuple #[]) ∧ Below B w w' ∧ ∃ v', w'.heap[b]? = some (.cells #[v'] 146 (0, 0)) ∧ w'.ownsRow B 50 4 v' (Pv.addF ((p, u, q), n) l).length (rchgs (Pv.addF ((p, u, q), n) l)) := by
  obtain ⟨i0, hi, hz0, hz1, hz2⟩ := info_parts infoChg
  have HA := hide (Pv.addF_new (c := ((p, u, q), n)) (l := l) hnew)
  have HB := hide hb
  have HO := hide ho
  have HNW := hide hnew
  obtain ⟨xv, cv, rfl⟩ : ∃ x c, v = .slice x l.length c := by
    rcases own_form ho with ⟨h, h2⟩ | ⟨g, c, h⟩
    · exact ⟨none, 0, by rw [h, h2]⟩
    · exact ⟨_, c, h⟩
  have hbl : b < w.heap.size := (Array.getElem?_eq_some_iff.1 hb).1
  have HNE : Hid (∀ k, (Value.slice xv l.length cv).ownBlock = some k → k ≠ b ∧ k < w.heap.size ∧ B ≤ k) := fun k hk => by
    refine ⟨?_, (ho.lt k hk).2, (ho.lt k hk).1⟩
    intro e
    subst e
    obtain ⟨cur, fz, h⟩ := own_type ho hk
    rw [hb] at h; cases h
  clear hb ho hnew
  go_enter Tryz.func98, Tryz.ntmps98
  go_upto_region 1 with fail
  have C0 := hide (K1.start w #[.int .i64 p, .int .i64 u, .int .i64 q, .int .i64 n] 50)
  generalize w.alloc (.cells #[.int .i64 p, .int .i64 u, .int .i64 q, .int .i64 n] 50) = w0 at *
  have HB0 : Hid (w0.heap[b]? = some (.cells #[.slice xv l.length cv] 146 (0, 0))) := Blk.below HB.out C0.out.bl
  have O0 := hide (own_below HO.out C0.out.bl)
  have r0 : w0.cell? ⟨w.heap.size, 0, none⟩ = some (.int .i64 p) := cell_of_heap C0.out.a 0
  have r1 : w0.cell? ⟨w.heap.size, 1, none⟩ = some (.int .i64 u) := cell_of_heap C0.out.a 1
  have r2 : w0.cell? ⟨w.heap.size, 2, none⟩ = some (.int .i64 q) := cell_of_heap C0.out.a 2
  go_wp2_with fail
  refine (tplace_any HB0.out (RdC.ofOwn O0.out) (by omega) p u q).mono ?_
  rintro e w1 ⟨rfl, e1⟩
  have C1 := hide (C0.out.below e1)
  have HB1 : Hid (w1.heap[b]? = some (.cells #[.slice xv l.length cv] 146 (0, 0))) := Blk.below HB0.out e1
  have O1 := hide (own_below O0.out e1)
  clear r0 r1 r2 e1 HB0 O0
  have r0 : w1.cell? ⟨w.heap.size, 0, none⟩ = some (.int .i64 p) := cell_of_heap C1.out.a 0
  have r1 : w1.cell? ⟨w.heap.size, 1, none⟩ = some (.int .i64 u) := cell_of_heap C1.out.a 1
  have r2 : w1.cell? ⟨w.heap.size, 2, none⟩ = some (.int .i64 q) := cell_of_heap C1.out.a 2
  have q0 : w1.cell? ⟨b, 0, none⟩ = some (.slice xv l.length cv) := cell_of_heap HB1.out 0
  have hpl := Pv.placeF_le (p, u, q) l
  generalize Pv.placeF (p, u, q) l = k at *
  go_upto_region 2 with fail
  go_cut [29] from 10 to 84 (fun q29 wy => q29 = .bool false ∧ ∃ m, wy = w1.drewN m)
  case first =>
    by_cases hlt : k < l.length
    · have hlt' : (k : Int) < (l.length : Int) := by omega
      obtain ⟨g, off, cap, e, hcap⟩ := (RdC.ofOwn O1.out).form1 (by omega)
      cases e
      obtain ⟨c0, c1, c2, c3⟩ := (RdC.ofOwn O1.out).cell k hlt
      have hne : ¬ (l[k].1.1 = p ∧ l[k].1.2.1 = u ∧ l[k].1.2.2 = q) := fun ⟨h1, h2, h3⟩ => HNW.out hlt (Prod.ext h1 (Prod.ext h2 h3))
      generalize l[k].1.1 = p1 at *
      generalize l[k].1.2.1 = u1 at *
      generalize l[k].1.2.2 = q1 at *
      have hc : (p1 == p) = false ∨ ((p1 == p) = true ∧ (u1 == u) = false) ∨ ((p1 == p) = true ∧ (u1 == u) = true ∧ (q1 == q) = false) := by
        by_cases h1 : p1 = p
        · by_cases h2 : u1 = u
          · have h3 : ¬ q1 = q := fun h3 => hne ⟨h1, h2, h3⟩
            exact .inr (.inr ⟨by simp [h1], by simp [h2], by simp [h3]⟩)
          · exact .inr (.inl ⟨by simp [h1], by simp [h2]⟩)
        · exact .inl (by simp [h1])
      clear hne
      rcases hc with h1 | ⟨h1, h2⟩ | ⟨h1, h2, h3⟩
      all_goals
        go_quiet (fail)
        go_wp2
        go_meet
        case rel => exact ⟨rfl, nq, rfl⟩
    · have hlt' : ¬ (k : Int) < (l.length : Int) := by omega
      go_quiet (fail)
      go_wp2
      go_meet
      case rel => exact ⟨rfl, nq, rfl⟩
  case rest =>
    obtain ⟨rfl, m, rfl⟩ := hcut
    have C2 : Hid (K1 w (w1.drewN m) #[.int .i64 p, .int .i64 u, .int .i64 q, .int .i64 n] 50) := ⟨C1.out.a, below_drewM C1.out.bl m⟩
    have HB2 : Hid ((w1.drewN m).heap[b]? = some (.cells #[.slice xv l.length cv] 146 (0, 0))) := HB1.out
    have O2 := hide (own_drewN O1.out m)
    clear r0 r1 r2 q0 C1 HB1 O1
    generalize w1.drewN m = w2 at *
    have r0 : w2.cell? ⟨w.heap.size, 0, none⟩ = some (.int .i64 p) := cell_of_heap C2.out.a 0
    have r1 : w2.cell? ⟨w.heap.size, 1, none⟩ = some (.int .i64 u) := cell_of_heap C2.out.a 1
    have r2 : w2.cell? ⟨w.heap.size, 2, none⟩ = some (.int .i64 q) := cell_of_heap C2.out.a 2
    have r3 : w2.cell? ⟨w.heap.size, 3, none⟩ = some (.int .i64 n) := cell_of_heap C2.out.a 3
    have q0 : w2.cell? ⟨b, 0, none⟩ = some (.slice xv l.length cv) := cell_of_heap HB2.out 0
    have hs2 := C2.out.size
    have hq2 := C2.out.bl.size
    have qa : (w2.alloc (.cells #[.int .i64 p, .int .i64 u, .int .i64 q, .int .i64 n] 50)).cell? ⟨b, 0, none⟩ = some (.slice xv l.length cv) := by
      rw [((Below.refl w2.heap.size w2).alloc (Nat.le_refl _) _).cell (p := ⟨b, 0, none⟩) (by show b < w2.heap.size; omega)]
      exact q0
    go_upto_region 4 with fail
    go_cut [52] from 43 to 84 (fun q52 wy => ∃ g6 cap6, PW w wy b B g6 cap6 (l ++ [((p, u, q), n)]) #[.int .i64 p, .int .i64 u, .int .i64 q, .int .i64 n])
    case first =>
      go_region_law (refine step_append_lies _ rfl (.tmp 47) (.tmp 49) 40 rfl B 50 i0 _ 4 32 Tryz.underlying40 hi hz0 hz1 hz2 rfl (by decide) _ l.length (rchgs l) rfl (O2.out.alloc _).drew _ 1 1 (rchg ((p, u, q), n)) rfl rfl (World.news_of_block (heap_alloc_new _ _)) (by intro u hu; simp [rchg] at hu; rcases hu with rfl | rfl | rfl | rfl <;> rfl) (by decide) (by unfold maxLen; omega) (by omega) (by simp; omega) _ rfl ?_; intro g6 cap6 w6 hown6 hgrow6 hat6 hlt6; obtain ⟨hb6, PW6⟩ := push_facts (c := ((p, u, q), n)) hBb hBw hbl C2.out HB2.out HNE.out (below_dB ((Below.refl _ _).alloc (Nat.le_refl _) _)) hgrow6 hat6 (by simp) hown6; have y0 : w6.cell? ⟨b, 0, none⟩ = some (.slice xv l.length cv) := cell_of_heap hb6 0; have z0 := free_of_heap hb6 0; have HPW := hide PW6; clear hb6 PW6 hown6 hgrow6 hat6 hlt6)
      all_goals
        go_wp2
        go_meet
        case rel => exact ⟨_, _, HPW.out⟩
    case rest =>
      obtain ⟨g6, cap6, hpw⟩ := hcut
      have P6 := hide hpw
      clear hpw r0 r1 r2 r3 q0
      have q0 : wc.cell? ⟨b, 0, none⟩ = some (.slice (some ⟨g6, 0, none⟩) (l.length + 1) cap6) := by
        have := cell_of_heap P6.out.hb 0
        simpa using this
      have HLN : Hid ((l ++ [((p, u, q), n)]).length = l.length + 1) := by show _ = _; simp
      have hwr : IntKind.i64.wrap (l.length : Int) = (l.length : Int) := wrap_id2 (by omega) (by omega)
      go_wp2
      go_loopw [5] (fun i5 wy => ∃ i : Nat, k ≤ i ∧ i ≤ l.length ∧ i5 = .int .i64 i ∧ PW w wy b B g6 cap6 (shiftL l ((p, u, q), n) i) #[.int .i64 p, .int .i64 u, .int .i64 q, .int .i64 n]) (fun i5 _ => (intOf i5).toNat)
      case atStart => exact ⟨l.length, by omega, Nat.le_refl _, rfl, by rw [shiftL_top]; exact P6.out⟩
      case round =>
        obtain ⟨i, hi1, hi2, rfl, hpw⟩ := hrel
        have P7 := hide hpw
        clear hpw
        have HLS := hide (shiftL_len l ((p, u, q), n) i hi2)
        have q0 : wr.cell? ⟨b, 0, none⟩ = some (.slice (some ⟨g6, 0, none⟩) (l.length + 1) cap6) := by
          have := cell_of_heap P7.out.hb 0
          rw [HLS.out] at this
          exact this
        by_cases hik : k < i
        · obtain ⟨j, rfl⟩ : ∃ j, i = j + 1 := ⟨i - 1, by omega⟩
          have hjl : j < l.length := by omega
          have hik' : (k : Int) < (j : Int) + 1 := by omega
          have hj1 : j < (shiftL l ((p, u, q), n) (j + 1)).length := by rw [HLS.out]; omega
          have hj2 : j + 1 < (shiftL l ((p, u, q), n) (j + 1)).length := by rw [HLS.out]; omega
          have eg : (shiftL l ((p, u, q), n) (j + 1))[j] = l[j] := by
            have := shiftL_get l ((p, u, q), n) j hjl
            rw [List.getElem?_eq_getElem hj1] at this
            exact Option.some.inj this
          obtain ⟨a0, a1, a2, a3⟩ := (RdC.ofOwn P7.out.own).cell j hj1
          rw [eg] at a0 a1 a2 a3
          obtain ⟨d0, d1, d2, d3⟩ := (RdC.ofOwn P7.out.own).cell (j + 1) hj2
          simp only [Nat.zero_add] at a0 a1 a2 a3 d0 d1 d2 d3
          have f0 := own_free P7.out.own ((j + 1) * 4)
          have f1 := own_free P7.out.own ((j + 1) * 4 + 1)
          have f2 := own_free P7.out.own ((j + 1) * 4 + 2)
          have f3 := own_free P7.out.own ((j + 1) * 4 + 3)
          have HST := hide (shiftL_step l ((p, u, q), n) j hjl)
          have HP8 := hide (P7.out.set4 (j + 1) hj2 l[j])
          rw [HST.out] at HP8
          have hwj : IntKind.i64.wrap (j : Int) = (j : Int) := wrap_id2 (by omega) (by omega)
          have b1 : j < l.length + 1 := by omega
          have b2 : j + 1 < l.length + 1 := by omega
          have b3 : (j : Int) < (l.length : Int) + 1 := by omega
          have b4 : (j : Int) + 1 < (l.length : Int) + 1 := by omega
          have b5 : (0 : Int) ≤ (j : Int) + 1 := by omega
          clear eg
          go_upto_region 8 with fail
          go_still_tail 14, (by kernel_rfl)
          go_wp2
          go_roundw
          case rel => exact ⟨j, by omega, by omega, by first | go_num | rfl, HP8.out.drew⟩
          case measure => simp [intOf]
        · obtain rfl : i = k := by omega
          have hik' : ¬ (i : Int) < (i : Int) := by omega
          have hj2 : i < (shiftL l ((p, u, q), n) i).length := by rw [HLS.out]; omega
          obtain ⟨d0, d1, d2, d3⟩ := (RdC.ofOwn P7.out.own).cell i hj2
          simp only [Nat.zero_add] at d0 d1 d2 d3
          have f0 := own_free P7.out.own (i * 4)
          have f1 := own_free P7.out.own (i * 4 + 1)
          have f2 := own_free P7.out.own (i * 4 + 2)
          have f3 := own_free P7.out.own (i * 4 + 3)
          have r0 : wr.cell? ⟨w.heap.size, 0, none⟩ = some (.int .i64 p) := P7.out.box.cell 0
          have r1 : wr.cell? ⟨w.heap.size, 1, none⟩ = some (.int .i64 u) := P7.out.box.cell 1
          have r2 : wr.cell? ⟨w.heap.size, 2, none⟩ = some (.int .i64 q) := P7.out.box.cell 2
          have r3 : wr.cell? ⟨w.heap.size, 3, none⟩ = some (.int .i64 n) := P7.out.box.cell 3
          have HP8 := hide (P7.out.set4 i hj2 ((p, u, q), n))
          rw [shiftL_end l ((p, u, q), n) i hi2, ← HA.out] at HP8
          have b1 : i < l.length + 1 := by omega
          have b3 : (i : Int) < (l.length : Int) + 1 := by omega
          go_upto_region 9 with fail
          go_still_tail 7, (by kernel_rfl)
          go_wp2
          go_end0
          exact ⟨rfl, HP8.out.drew.bel, _, HP8.out.drew.hb, HP8.out.drew.own⟩
end Go.Proofs.YtcoofnhdbejnpaaGreatDoor

