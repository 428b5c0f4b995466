/- Package tables: table, After. -/
import Derived.Test.YtcoofnhdbejnpabGreatDoorG03
import Derived.Test.YtcoofnhdbejnpabGreatDoorG36
import Derived.Test.YtcoofnhdbejnpabGreatDoorG13
namespace Go.Proofs.YtcoofnhdbejnpabGreatDoor
open Go.RowKit
/-- the table as it is made -/
structure TW (w wy : World) (v : Value) (l : List Pv.Chg) : Prop where
  res : Blk wy w.heap.size #[.slice none 0 0] 83
  own : Blk wy (w.heap.size + 1) #[v] 83
  vs : wy.ownsRow (w.heap.size + 1 + 1) 47 4 v l.length (rchgs l)
  bl : Below w.heap.size w wy
theorem setB1 {W : World} {b : Nat} {v0 : Value} {T : Nat} (h : Blk W b #[v0] T) (x : Value) : Blk (W.setCell ⟨b, 0, none⟩ x) b #[x] T := by
  have h' : W.heap[b]? = some (.cells #[v0] T (0, 0)) := h
  simp [Blk, World.setCell, Array.getElem?_modify, h']
theorem TW.push {w wy W w8 : World} {v v8 : Value} {l : List Pv.Chg} {c : Pv.Chg} (h : TW w wy v l) (hW : Below wy.heap.size wy W) (hg : W.grownBy w8 v.ownBlock) (h8 : w8.ownsRow (w.heap.size + 1 + 1) 47 4 v8 (l.length + 1) (rchgs l ++ rchg c)) :
    Blk w8 (w.heap.size + 1) #[v] 83 ∧ TW w (w8.setCell ⟨w.heap.size + 1, 0, none⟩ v8) v8 (l ++ [c]) := by
  have n1 : ∀ k, v.ownBlock = some k → w.heap.size + 1 + 1 ≤ k := fun k hk => (h.vs.lt k hk).1
  have hr := h.res.below hW
  have ho := h.own.below hW
  have hb : Blk w8 (w.heap.size + 1) #[v] 83 := by
    unfold Blk
    rw [hg.block _ (Array.getElem?_eq_some_iff.1 ho).1 (fun e => by have := n1 _ e.symm; omega)]
    exact ho
  refine ⟨hb, ⟨?_, setB1 hb v8, ?_, ?_⟩⟩
  · unfold Blk
    rw [set_far _ _ _ _ _ (by omega), hg.block _ (Array.getElem?_eq_some_iff.1 hr).1 (fun e => by have := n1 _ e.symm; omega)]
    exact hr
  · rw [rchgs_snoc, List.length_append]
    refine h8.kept (grown_set w8 _ 0 _) ?_
    cases hs : v8.ownBlock with
    | none => exact .inl rfl
    | some k => exact .inr (fun e => by cases e; have := (h8.lt _ hs).1; omega)
  · have hb2 : Below w.heap.size w W := h.bl.trans (hW.mono h.bl.size)
    exact (hb2.grown hg (Nat.le_of_lt (by have := (Array.getElem?_eq_some_iff.1 hr).1; omega)) (fun k hk => by have := n1 k hk; omega)).setCell (p := ⟨w.heap.size + 1, 0, none⟩) (by simp) _
def posC (c : Pv.Chg) : Bool := decide (0 < c.2)
theorem posC_take (l : List Pv.Chg) (k : Nat) (h : k < l.length) : (l.take (k + 1)).filter posC = (l.take k).filter posC ++ (if posC l[k] = true then [l[k]] else []) := by
  rw [List.take_succ_eq_append_getElem h, List.filter_append]
  congr 1
  cases hq : posC l[k] <;> simp [hq]
/-- a table of these rows, all its own -/
def TabPost (w : World) (l : List Pv.Chg) (e : Ending) (w' : World) : Prop :=
  Below w.heap.size w w' ∧ ∃ x n c, e = .returned (.agg #[.slice x n c]) ∧ w'.ownsRow w.heap.size 47 4 (.slice x n c) l.length (rchgs l)
set_option maxRecDepth 100000 in
set_option maxHeartbeats 2000000 in
theorem ttable_any {w : World} {b : Nat} {v : Value} {l : List Pv.Chg} (hb : w.heap[b]? = some (.cells #[v] 131 (0, 0))) (hv : RdC w v l) (hl : l.length ≤ 1000) :
    Calls Tryz.prog 62 #[.pointer (some ⟨b, 0, none⟩)] w fun e w' => TabPost w (l.filter posC) e w' := by
  obtain ⟨i0, hi, hz0, hz1, hz2⟩ := info_parts infoChg
  have HV := hide hv
  have HB := hide hb
  have hbl : b < w.heap.size := (Array.getElem?_eq_some_iff.1 hb).1
  obtain ⟨av, nv, cv, rfl⟩ : ∃ a n c, v = .slice a n c := by
    rcases hv.form with ⟨h, _⟩ | ⟨g, off, cap, h, _⟩
    · exact ⟨_, _, _, h⟩
    · exact ⟨_, _, _, h⟩
  obtain rfl := hv.len
  clear hv hb
  go_enter Tryz.func62, Tryz.ntmps62
  go_upto_region 2 with fail
  have C0 := hide (K2.start w #[.slice none 0 0] 83 #[.slice none 0 0] 83)
  generalize ((w.alloc (.cells #[.slice none 0 0] 83)).alloc (.cells #[.slice none 0 0] 83)) = w0 at *
  go_wp2_with fail
  go_loopw [4] (fun r wr => ∃ k : Nat, k ≤ l.length ∧ r = .int .i64 k ∧ ∃ x n c, TW w wr (.slice x n c) ((l.take k).filter posC)) (fun r _ => l.length - (intOf r).toNat)
  case atStart => exact ⟨0, by omega, rfl, none, 0, 0, C0.out.a, C0.out.b, World.ownsRow_nil _ _ _ _, C0.out.bl⟩
  case round =>
    obtain ⟨k, hk, rfl, x, n, c, htw⟩ := hrel
    have T1 := hide htw
    clear htw
    have q0 : wr.cell? ⟨b, 0, none⟩ = some (.slice av l.length cv) := (T1.out.bl.cell (p := ⟨b, 0, none⟩) hbl).trans (cell_of_heap HB.out 0)
    have hsz : w.heap.size + 1 < wr.heap.size := (Array.getElem?_eq_some_iff.1 T1.out.own).1
    by_cases hlt : k < l.length
    · have hlt' : (k : Int) < (l.length : Int) := by omega
      obtain ⟨g, off, cap, e, hcap⟩ := HV.out.form1 (by omega)
      cases e
      obtain ⟨c0, c1, c2, c3⟩ := (HV.out.below T1.out.bl).cell k hlt
      have HFT := hide (posC_take l k hlt)
      have HPC : Hid (posC l[k] = decide (0 < l[k].2)) := rfl
      have hfl : ((l.take k).filter posC).length ≤ 1000 := by
        have := List.length_filter_le posC (l.take k)
        rw [List.length_take] at this; omega
      generalize (l.take k).filter posC = cur at *
      by_cases hp : 0 < l[k].2
      · rw [HPC.out, if_pos (by simp [hp])] at HFT
        have o0 : wr.cell? ⟨w.heap.size + 1, 0, none⟩ = some (.slice x n c) := T1.out.own.cell 0
        have oa : (wr.alloc (.cells #[.int .i64 l[k].1.1, .int .i64 l[k].1.2.1, .int .i64 l[k].1.2.2, .int .i64 l[k].2] 47)).cell? ⟨w.heap.size + 1, 0, none⟩ = some (.slice x n c) := by
          rw [((Below.refl wr.heap.size wr).alloc (Nat.le_refl _) _).cell (p := ⟨w.heap.size + 1, 0, none⟩) (by show w.heap.size + 1 < wr.heap.size; omega)]
          exact o0
        go_upto_region 6 with fail
        go_region_law (refine step_append_lies _ rfl (.tmp 24) (.tmp 32) 38 rfl (w.heap.size + 1 + 1) 47 i0 _ 4 32 Tryz.underlying38 hi hz0 hz1 hz2 rfl (by decide) _ cur.length (rchgs cur) rfl (T1.out.vs.alloc _).drew _ 1 1 (rchg l[k]) rfl rfl (World.news_of_block (heap_alloc_new _ _)) (by intro u hu; simp [rchg] at hu; rcases hu with rfl | rfl | rfl | rfl <;> rfl) (by decide) (by unfold maxLen; omega) (by omega) (by simp; omega) _ rfl ?_; intro g6 cap6 w6 hown6 hgrow6 hat6 hlt6; obtain ⟨hb6, PW6⟩ := T1.out.push (below_dB ((Below.refl _ _).alloc (Nat.le_refl _) _)) hgrow6 hown6; have y0 : w6.cell? ⟨w.heap.size + 1, 0, none⟩ = some (.slice x n c) := hb6.cell 0; have z0 := free_of_heap hb6 0; have HPW := hide PW6; clear hb6 PW6 hown6 hgrow6 hat6 hlt6)
        all_goals
          go_wp2
          go_roundw
          case rel => exact ⟨k + 1, by omega, by go_num, _, _, _, by rw [HFT.out]; exact HPW.out⟩
          case measure => simp [intOf]; omega
      · rw [HPC.out, if_neg (by simp [hp]), List.append_nil] at HFT
        go_wp2
        go_roundw
        case rel => exact ⟨k + 1, by omega, by go_num, x, n, c, by rw [HFT.out]; exact T1.out⟩
        case measure => simp [intOf]; omega
    · have hlt' : ¬ (k : Int) < (l.length : Int) := by omega
      obtain rfl : k = l.length := by omega
      rw [List.take_length] at T1
      have a0 : wr.cell? ⟨w.heap.size + 1, 0, none⟩ = some (.slice x n c) := T1.out.own.cell 0
      have r0 : wr.cell? ⟨w.heap.size, 0, none⟩ = some (.slice none 0 0) := T1.out.res.cell 0
      have f0 := free_of_heap T1.out.res 0
      have l0 := (setB1 T1.out.res (.slice x n c)).cell 0
      go_wp2
      refine bodyPost_ret (v := .agg #[.slice x n c]) (by simp [results, Tryz.results62, go_sem, l0]) rfl ⟨T1.out.bl.setCell (p := ⟨w.heap.size, 0, none⟩) (Nat.le_refl _) _, _, _, _, rfl, ?_⟩
      refine own_base2 (T1.out.vs.kept (grown_set wr w.heap.size 0 _) ?_) (by omega)
      cases hs : (Value.slice x n c).ownBlock with
      | none => exact .inl rfl
      | some k => exact .inr (fun e => by cases e; have := (T1.out.vs.lt _ hs).1; omega)
end Go.Proofs.YtcoofnhdbejnpabGreatDoor

/- Package tables: After. -/
namespace Go.Proofs.YtcoofnhdbejnpabGreatDoor
open Go.RowKit
/-- the table behind a batch, or why it may not be -/
def AfterPost (w : World) (t bt : List Pv.Chg) (e : Ending) (w' : World) : Prop :=
  Below w.heap.size w w' ∧
  (((Pv.refusedF t bt).1 ≠ 0 ∧ e = .returned (.tuple #[.agg #[.slice none 0 0], .int .i64 (Pv.refusedF t bt).1, .int .i64 ((Pv.refusedF t bt).2 : Nat)])) ∨
   ((Pv.refusedF t bt).1 = 0 ∧ ∃ x n c, e = .returned (.tuple #[.agg #[.slice x n c], .int .i64 0, .int .i64 0]) ∧ w'.ownsRow w.heap.size 47 4 (.slice x n c) (Pv.tableF t bt).length (rchgs (Pv.tableF t bt))))
theorem scan_ne {l : List Pv.Chg} {i : Nat} {x : Int × Nat} (h : Pv.scanF i l = some x) : x.1 ≠ 0 := by
  induction l generalizing i with
  | nil => simp [Pv.scanF] at h
  | cons c l ih =>
    rw [Pv.scanF] at h
    split at h
    · cases h; simp
    · split at h
      · cases h; simp
      · exact ih h
theorem chkB_ne {t bt : List Pv.Chg} (h : (Pv.chkB bt).1 ≠ 0) : Pv.refusedF t bt = Pv.chkB bt := by
  unfold Pv.chkB at h ⊢
  by_cases hl : 50 < bt.length
  · rw [Pv.refused_long hl, if_pos hl]
  · rw [if_neg hl] at h ⊢
    cases hs : Pv.scanF 0 bt with
    | none => rw [hs] at h; simp at h
    | some x => rw [Pv.refused_scan hl hs]
theorem chkB_ok {bt : List Pv.Chg} (h : (Pv.chkB bt).1 = 0) : ¬ 50 < bt.length ∧ Pv.scanF 0 bt = none := by
  unfold Pv.chkB at h
  by_cases hl : 50 < bt.length
  · rw [if_pos hl] at h; simp at h
  · rw [if_neg hl] at h
    refine ⟨hl, ?_⟩
    cases hs : Pv.scanF 0 bt with
    | none => rfl
    | some x => rw [hs] at h; exact absurd h (scan_ne hs)
theorem sums_le {t : List Pv.Chg} (bt : List Pv.Chg) (k : Nat) (h : k < bt.length) : (Pv.tableF t bt).any (fun d => decide (d.1 = bt[k].1) && decide (d.2 < 0)) = decide (Pv.sumOf (Pv.sumsF (t ++ bt)) bt[k].1 < 0) := by
  rw [Pv.less_any, Pv.sumsF_sum, Pv.sumOf_app]
set_option maxRecDepth 100000 in
set_option maxHeartbeats 4000000 in
theorem after_any {w : World} {vt vb : Value} {t bt : List Pv.Chg} (ht : RdC w vt t) (hb : RdC w vb bt) (hti : Pv.TInv t) (hbl : bt.length ≤ 4000000000000000000) :
    Calls Tryz.prog 31 #[.agg #[vt], vb] w fun e w' => AfterPost w t bt e w' := by
  have HT := hide ht
  have HBT := hide hb
  have HTI := hide hti
  obtain ⟨xt, nt, ct, rfl⟩ : ∃ a n c, vt = .slice a n c := by
    rcases ht.form with ⟨h, _⟩ | ⟨g, off, cap, h, _⟩
    · exact ⟨_, _, _, h⟩
    · exact ⟨_, _, _, h⟩
  obtain ⟨xb, nb, cb, rfl⟩ : ∃ a n c, vb = .slice a n c := by
    rcases hb.form with ⟨h, _⟩ | ⟨g, off, cap, h, _⟩
    · exact ⟨_, _, _, h⟩
    · exact ⟨_, _, _, h⟩
  obtain rfl := ht.len
  obtain rfl := hb.len
  clear ht hb hti
  go_enter Tryz.func31, Tryz.ntmps31
  go_upto_region 1 with fail
  have C0 := hide (K2.start w #[.slice xt t.length ct] 83 #[.slice none 0 0] 83)
  generalize ((w.alloc (.cells #[.slice xt t.length ct] 83)).alloc (.cells #[.slice none 0 0] 83)) = w0 at *
  go_wp2_with fail
  refine (checkBatch_any (HBT.out.below C0.out.bl) hbl).mono ?_
  rintro e w1 ⟨rfl, e1⟩
  have C1 := hide (C0.out.below e1)
  have B1 := hide e1
  clear e1
  have HRES : Hid (∀ W, Below w0.heap.size w0 W → Blk W (w.heap.size + 1) #[.slice none 0 0] 83 ∧ Below w.heap.size w W) := fun W h => ⟨(C0.out.below h).b, (C0.out.below h).bl⟩
  by_cases hc : (Pv.chkB bt).1 = 0
  · obtain ⟨hl50, hsc⟩ := chkB_ok hc
    have HSC := hide hsc
    have hsb := Pv.scan_none bt 0 hsc
    have HBB : Hid (∀ c ∈ bt, -40 ≤ c.2 ∧ c.2 ≤ 40) := fun c hc => Pv.cnt_bd (hsb c hc).2
    have HTB : Hid (∀ c ∈ t, -40 ≤ c.2 ∧ c.2 ≤ 40) := fun c hc => by have := HTI.out.bd c hc; omega
    have htl := HTI.out.len
    rw [hc]
    clear hsc hsb hc
    generalize ((Pv.chkB bt).2 : Int) = cc at *
    have a0 : w1.cell? ⟨w.heap.size, 0, none⟩ = some (.slice xt t.length ct) := cell_of_heap C1.out.a 0
    go_upto_region 4 with fail
    go_wp2_with fail
    refine (sumsWith_any (HT.out.below C1.out.bl) (HBT.out.below C1.out.bl) (by omega) (by omega) HTB.out HBB.out).mono ?_
    rintro e w2 ⟨e2, v2, rfl, own2⟩
    obtain ⟨x2, n2, c2, rfl⟩ := own_sl own2
    have B2 := hide (B1.out.trans (e2.mono B1.out.size))
    have O2 := hide own2
    clear a0 e2 own2
    have hsl : (Pv.sumsF (t ++ bt)).length ≤ 200 := by
      have := Pv.sumsF_len (t ++ bt)
      rw [List.length_append] at this; omega
    have HSR := hide (Pv.sumsF_srt (t ++ bt))
    have HLS : Hid (∀ k (h : k < bt.length), (Pv.tableF t bt).any (fun d => decide (d.1 = bt[k].1) && decide (d.2 < 0)) = decide (Pv.sumOf (Pv.sumsF (t ++ bt)) bt[k].1 < 0)) := fun k h => sums_le bt k h
    have HSB : Hid (∀ r, -8000 ≤ Pv.sumOf (Pv.sumsF (t ++ bt)) r ∧ Pv.sumOf (Pv.sumsF (t ++ bt)) r ≤ 8000) := fun r => by
      rw [Pv.sumsF_sum]
      have := Pv.sumOf_bd (l := t ++ bt) (b := 40) (fun c hc => by
        rcases List.mem_append.1 hc with h | h
        · exact HTB.out c h
        · exact HBB.out c h) (by omega) r
      rw [List.length_append] at this
      omega
    have HTO := hide (Pv.sums_total t bt)
    have HPO : Hid (Pv.lessF (Pv.tableF t bt) 0 bt = none → (Pv.sumsF (t ++ bt)).filter posC = Pv.tableF t bt) := fun h => Pv.sums_pos ⟨HTI.out.tab, fun c hc => by have := HTI.out.pos c hc; omega⟩ h
    generalize Pv.sumsF (t ++ bt) = ss at *
    go_upto_region 5 with fail
    have D3 := hide (heap_alloc_new w2 (.cells #[.slice x2 n2 c2] 131))
    have B3 := hide (B2.out.alloc B2.out.size (.cells #[.slice x2 n2 c2] 131))
    have R3 := hide ((RdC.ofOwn O2.out).below ((Below.refl w2.heap.size w2).alloc (Nat.le_refl _) (.cells #[.slice x2 n2 c2] 131)))
    have hs3 : w2.heap.size < (w2.alloc (.cells #[.slice x2 n2 c2] 131)).heap.size := by simp
    generalize w2.alloc (.cells #[.slice x2 n2 c2] 131) = w3 at *
    generalize w2.heap.size = b3 at *
    have HW3 : Hid (∀ W, Below w3.heap.size w3 W → W.heap[b3]? = some (.cells #[.slice x2 n2 c2] 131 (0, 0)) ∧ RdC W (.slice x2 n2 c2) ss ∧ Blk W (w.heap.size + 1) #[.slice none 0 0] 83 ∧ Below w.heap.size w W) := fun W h => by
      obtain ⟨h1, h2⟩ := HRES.out W (B3.out.trans (h.mono B3.out.size))
      exact ⟨(h.block _ hs3).trans D3.out, R3.out.below h, h1, h2⟩
    go_wp2_with fail
    go_loopw [10] (fun r wr => ∃ k : Nat, k ≤ bt.length ∧ r = .int .i64 k ∧ Below w3.heap.size w3 wr ∧ Hid (Pv.lessF (Pv.tableF t bt) k (bt.drop k) = Pv.lessF (Pv.tableF t bt) 0 bt)) (fun r _ => bt.length - (intOf r).toNat)
    case atStart => exact ⟨0, by omega, rfl, Below.refl _ _, rfl⟩
    case round =>
      obtain ⟨k, hk, rfl, hbe, HN⟩ := hrel
      have B4 := hide hbe
      clear hbe
      obtain ⟨h1, h2, h3, h4⟩ := HW3.out _ B4.out
      have HB4 := hide h1
      have R4 := hide h2
      have S4 := hide h3
      have W4 := hide h4
      clear h1 h2 h3 h4
      by_cases hlt : k < bt.length
      · have hlt' : (k : Int) < (bt.length : Int) := by omega
        obtain ⟨g, off, cap, e, hcap⟩ := HBT.out.form1 (by omega)
        cases e
        obtain ⟨c0, c1, c2', c3⟩ := (HBT.out.below W4.out).cell k hlt
        have HLD := hide (Pv.less_drop (Pv.tableF t bt) bt k hlt)
        rw [HLS.out k hlt] at HLD
        obtain ⟨s1, s2⟩ := HSB.out bt[k].1
        go_wp2_with fail
        refine (tof_any HB4.out R4.out (by omega) HSR.out bt[k].1.1 bt[k].1.2.1 bt[k].1.2.2).mono ?_
        rintro e w5 ⟨rfl, e5⟩
        have B5 := hide (B4.out.trans (e5.mono B4.out.size))
        obtain ⟨h1, h2, h3, h4⟩ := HW3.out _ B5.out
        have S5 := hide h3
        have W5 := hide h4
        clear h1 h2 h3 h4 e5 c0 c1 c2' c3
        have HEQ : Hid (Pv.sumOf ss bt[k].1 = Pv.sumOf ss (bt[k].1.1, bt[k].1.2.1, bt[k].1.2.2)) := rfl
        rw [HEQ.out] at HLD s1 s2
        generalize Pv.sumOf ss (bt[k].1.1, bt[k].1.2.1, bt[k].1.2.2) = sv at *
        by_cases hng : sv < 0
        · rw [if_pos (by simp [hng])] at HLD
          have HRF : Hid (Pv.refusedF t bt = (9, k)) := Pv.refused_less hl50 HSC.out (HN.out.symm.trans HLD.out)
          have r0 : w5.cell? ⟨w.heap.size + 1, 0, none⟩ = some (.slice none 0 0) := S5.out.cell 0
          have f0 := free_of_heap S5.out 0
          have l0 := (setB1 S5.out (.slice none 0 0)).cell 0
          go_wp2
          refine bodyPost_ret (v := .tuple #[.agg #[.slice none 0 0], .int .i64 9, .int .i64 (k : Int)]) (by simp [results, Tryz.results31, go_sem, l0]) rfl ⟨W5.out.setCell (p := ⟨w.heap.size + 1, 0, none⟩) (by simp) _, .inl ?_⟩
          rw [HRF.out]
          exact ⟨by simp, rfl⟩
        · rw [if_neg (by simp [hng])] at HLD
          go_wp2
          go_roundw
          case rel => exact ⟨k + 1, by omega, by go_num, B5.out, HLD.out.symm.trans HN.out⟩
          case measure => simp [intOf]; omega
      · have hlt' : ¬ (k : Int) < (bt.length : Int) := by omega
        have hln : Pv.lessF (Pv.tableF t bt) 0 bt = none := by
          rw [← HN.out, List.drop_eq_nil_of_le (by omega)]; rfl
        have HRE := hide (Pv.refused_end hl50 HSC.out hln)
        have HPT := hide (HPO.out hln)
        clear hln
        go_wp2_with fail
        refine (ttotal_any HB4.out R4.out (by omega) (fun c hc => by
          obtain ⟨j, hj, rfl⟩ := List.getElem_of_mem hc
          have h1 := Pv.srt_sum HSR.out j hj
          have h2 := HSB.out ss[j].1
          omega)).mono ?_
        rintro e w5 ⟨rfl, hw5⟩
        obtain rfl := hw5.symm
        rw [HTO.out]
        generalize Pv.totalF (Pv.tableF t bt) = tot at *
        by_cases h40 : 40 < tot
        · rw [if_pos h40] at HRE
          have r0 : wr.cell? ⟨w.heap.size + 1, 0, none⟩ = some (.slice none 0 0) := S4.out.cell 0
          have f0 := free_of_heap S4.out 0
          have l0 := (setB1 S4.out (.slice none 0 0)).cell 0
          go_wp2
          refine bodyPost_ret (v := .tuple #[.agg #[.slice none 0 0], .int .i64 10, .int .i64 0]) (by simp [results, Tryz.results31, go_sem, l0]) rfl ⟨W4.out.setCell (p := ⟨w.heap.size + 1, 0, none⟩) (by simp) _, .inl ?_⟩
          rw [HRE.out]
          exact ⟨by simp, rfl⟩
        · rw [if_neg h40] at HRE
          go_wp2_with fail
          refine (ttable_any HB4.out R4.out (by omega)).mono ?_
          rintro e w6 ⟨e6, x6, n6, c6, rfl, own6⟩
          rw [HPT.out] at own6
          have S6 := hide (S4.out.below e6)
          have W6 := hide (W4.out.trans (e6.mono W4.out.size))
          have O6 := hide own6
          have hw6 := W4.out.size
          have hw7 : w.heap.size + 1 < wr.heap.size := (Array.getElem?_eq_some_iff.1 S4.out).1
          have r0 : w6.cell? ⟨w.heap.size + 1, 0, none⟩ = some (.slice none 0 0) := S6.out.cell 0
          have f0 := free_of_heap S6.out 0
          have l0 := (setB1 S6.out (.slice x6 n6 c6)).cell 0
          clear e6 own6
          go_wp2
          refine bodyPost_ret (v := .tuple #[.agg #[.slice x6 n6 c6], .int .i64 0, .int .i64 0]) (by simp [results, Tryz.results31, go_sem, l0]) rfl ⟨W6.out.setCell (p := ⟨w.heap.size + 1, 0, none⟩) (by simp) _, .inr ?_⟩
          rw [HRE.out]
          refine ⟨rfl, x6, n6, c6, rfl, own_base2 (O6.out.kept (grown_set w6 (w.heap.size + 1) 0 _) ?_) hw6⟩
          cases hob : (Value.slice x6 n6 c6).ownBlock with
          | none => exact .inl rfl
          | some k2 =>
            right
            intro e
            cases e
            have := (O6.out.lt _ hob).1
            omega
  · have hc' : ((Pv.chkB bt).1 != 0) = true := by simp [hc]
    have HRF := hide (chkB_ne (t := t) hc)
    have HC := hide hc
    clear hc
    have S1 : Hid (Blk w1 (w.heap.size + 1) #[.slice none 0 0] 83) := C1.out.b
    have r0 : w1.cell? ⟨w.heap.size + 1, 0, none⟩ = some (.slice none 0 0) := S1.out.cell 0
    have f0 := free_of_heap S1.out 0
    have l0 := (setB1 S1.out (.slice none 0 0)).cell 0
    go_wp2
    refine bodyPost_ret (v := .tuple #[.agg #[.slice none 0 0], .int .i64 (Pv.chkB bt).1, .int .i64 ((Pv.chkB bt).2 : Nat)]) (by simp [results, Tryz.results31, go_sem, l0]) rfl ⟨C1.out.bl.setCell (p := ⟨w.heap.size + 1, 0, none⟩) (by simp) _, .inl ?_⟩
    rw [HRF.out]
    exact ⟨HC.out, rfl⟩
end Go.Proofs.YtcoofnhdbejnpabGreatDoor

/- Package queries: functions as texts. -/
namespace Go.Proofs.YtcoofnhdbejnpabGreatDoor
open Go.RowKit
set_option maxHeartbeats 2000000 in
theorem fnText_any (x : Pq.Fn) (hx : Pq.goodFn x) (w : World) :
    Calls Tryz.prog 120 #[.agg #[.int .i64 (x.kind : Int), .int .i64 (x.col : Int), .int .i64 x.num, .int .i64 (x.frame.kind : Int), .int .i64 x.frame.num, .int .i64 (x.frame.frm.kind : Int), .int .i64 x.frame.frm.num, .int .i64 (x.frame.to.kind : Int), .int .i64 x.frame.to.num]] w fun e w' => e = .returned (.string ⟨(Pq.fnTxt x).toArray⟩) ∧ Below w.heap.size w w' := by
  obtain ⟨k, c, n, f⟩ := x
  obtain ⟨hk, hc, ⟨h0, h1⟩, hf⟩ := hx
  simp only at hk hc h0 h1 hf ⊢
  have HF := hide hf
  clear hf
  have hl := Pq.numTxt_len n
  have hlk := Pq.kindTxt_len k
  have hlc := Nat.le_of_eq (Pq.colTxt_len c)
  have hlf := Pq.frameTxt_len f
  by_cases e3 : k < 3
  · have HE : Hid (Pq.fnTxt ⟨k, c, n, f⟩ = Pq.kindTxt k) := by show _ = _; simp [Pq.fnTxt, e3]
    obtain rfl | rfl | rfl : k = 0 ∨ k = 1 ∨ k = 2 := by omega
    all_goals
      go_enter Tryz.func120, Tryz.ntmps120
      go_wp2_with (go_at_call 160; refine (kindName_any _ hk _).mono ?_; rintro e w1 ⟨rfl, rfl⟩)
      go_ret
      rw [HE.out]
      exact ⟨rfl, (Below.refl _ _).alloc (Nat.le_refl _) _⟩
  · by_cases e4 : k = 3
    · subst e4
      have HE : Hid (Pq.fnTxt ⟨3, c, n, f⟩ = Pq.kindTxt 3 ++ (Pq.wOpen ++ Pq.numTxt n) ++ Pq.wClose) := hide rfl
      go_enter Tryz.func120, Tryz.ntmps120
      go_wp2_with (first | (go_at_call 160; refine (kindName_any _ hk _).mono ?_; rintro e w1 ⟨rfl, rfl⟩) | (go_at_call 119; refine (colName_any c hc _).mono ?_; rintro e w1 ⟨rfl, rfl⟩) | (go_at_call 56; refine (itoa_any n h0 h1 _).mono ?_; rintro e w1 ⟨rfl, rfl⟩) | (go_at_call 161; refine (frameText_any f HF.out _).mono ?_; rintro e w2 ⟨rfl, b2⟩; have hsz := HSZ.out; rw [hsz] at b2; have B2 := (((Below.refl w.heap.size w).alloc (Nat.le_refl _) _).trans (b2.mono (Nat.le_succ _))); clear b2))
      go_ret
      rw [HE.out]
      exact ⟨ret_str (by simp [Pq.wOpen, Pq.wClose]), (Below.refl _ _).alloc (Nat.le_refl _) _⟩
    · by_cases e6 : k < 6
      · have HE : Hid (Pq.fnTxt ⟨k, c, n, f⟩ = Pq.kindTxt k ++ (Pq.wOpen ++ Pq.colTxt c) ++ (Pq.wComma ++ 32 :: Pq.numTxt n) ++ Pq.wClose) := by show _ = _; simp [Pq.fnTxt, e3, e4, e6]
        obtain rfl | rfl : k = 4 ∨ k = 5 := by omega
        all_goals
          go_enter Tryz.func120, Tryz.ntmps120
          go_wp2_with (first | (go_at_call 160; refine (kindName_any _ hk _).mono ?_; rintro e w1 ⟨rfl, rfl⟩) | (go_at_call 119; refine (colName_any c hc _).mono ?_; rintro e w1 ⟨rfl, rfl⟩) | (go_at_call 56; refine (itoa_any n h0 h1 _).mono ?_; rintro e w1 ⟨rfl, rfl⟩) | (go_at_call 161; refine (frameText_any f HF.out _).mono ?_; rintro e w2 ⟨rfl, b2⟩; have hsz := HSZ.out; rw [hsz] at b2; have B2 := (((Below.refl w.heap.size w).alloc (Nat.le_refl _) _).trans (b2.mono (Nat.le_succ _))); clear b2))
          go_ret
          rw [HE.out]
          exact ⟨ret_str (by simp [Pq.wOpen, Pq.wClose, Pq.wComma]), (Below.refl _ _).alloc (Nat.le_refl _) _⟩
      · have HE : Hid (Pq.fnTxt ⟨k, c, n, f⟩ = Pq.kindTxt k ++ (Pq.wOpen ++ Pq.colTxt c) ++ (Pq.wComma ++ 32 :: Pq.frameTxt f) ++ Pq.wClose) := by show _ = _; simp [Pq.fnTxt, e3, e4, e6]
        have hk6 : 6 ≤ k := by omega
        clear e3 e4 e6
        have HSZ : Hid ((w.alloc (.cells #[.int .i64 (k : Int), .int .i64 (c : Int), .int .i64 n, .int .i64 (f.kind : Int), .int .i64 f.num, .int .i64 (f.frm.kind : Int), .int .i64 f.frm.num, .int .i64 (f.to.kind : Int), .int .i64 f.to.num] 203)).heap.size = w.heap.size + 1) := by show _ = _; simp
        go_enter Tryz.func120, Tryz.ntmps120
        go_wp2_with (first | (go_at_call 160; refine (kindName_any _ hk _).mono ?_; rintro e w1 ⟨rfl, rfl⟩) | (go_at_call 119; refine (colName_any c hc _).mono ?_; rintro e w1 ⟨rfl, rfl⟩) | (go_at_call 56; refine (itoa_any n h0 h1 _).mono ?_; rintro e w1 ⟨rfl, rfl⟩) | (go_at_call 161; refine (frameText_any f HF.out _).mono ?_; rintro e w2 ⟨rfl, b2⟩; have hsz := HSZ.out; rw [hsz] at b2; have B2 := (((Below.refl w.heap.size w).alloc (Nat.le_refl _) _).trans (b2.mono (Nat.le_succ _))); clear b2))
        go_ret
        rw [HE.out]
        exact ⟨ret_str (by simp [Pq.wOpen, Pq.wClose, Pq.wComma]), B2⟩
end Go.Proofs.YtcoofnhdbejnpabGreatDoor

