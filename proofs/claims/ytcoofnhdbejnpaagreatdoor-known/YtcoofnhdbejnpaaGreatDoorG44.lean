/- Package tables: table, After. -/
import Derived.Test.YtcoofnhdbejnpaaGreatDoorG03
import Derived.Test.YtcoofnhdbejnpaaGreatDoorG43
import Derived.Test.YtcoofnhdbejnpaaGreatDoorG01
import Derived.Test.YtcoofnhdbejnpaaGreatDoorG14
import Derived.Test.YtcoofnhdbejnpaaGreatDoorG20
import Derived.Test.YtcoofnhdbejnpaaGreatDoorG22
import Derived.Test.YtcoofnhdbejnpaaGreatDoorG40
namespace Go.Proofs.YtcoofnhdbejnpaaGreatDoor
open Go.RowKit
/-- the table as it is made -/
structure TW (w wy : World) (v : Value) (l : List Pv.Chg) : Prop where
  res : Blk wy w.heap.size #[.slice none 0 0] 106
  own : Blk wy (w.heap.size + 1) #[v] 106
  vs : wy.ownsRow (w.heap.size + 1 + 1) 50 4 v l.length (rchgs l)
  bl : Below w.heap.size w wy
theorem setB1 {W : World} {b : Nat} {v0 : Value} {T : Nat} (h : Blk W b #[v0] T) (x : Value) : Blk (W.setCell ⟨b, 0, none⟩ x) b #[x] T := by
  have h' : W.heap[b]? = some (.cells #[v0] T (0, 0)) := h
  simp [Blk, World.setCell, Array.getElem?_modify, h']
theorem TW.push {w wy W w8 : World} {v v8 : Value} {l : List Pv.Chg} {c : Pv.Chg} (h : TW w wy v l) (hW : Below wy.heap.size wy W) (hg : W.grownBy w8 v.ownBlock) (h8 : w8.ownsRow (w.heap.size + 1 + 1) 50 4 v8 (l.length + 1) (rchgs l ++ rchg c)) :
    Blk w8 (w.heap.size + 1) #[v] 106 ∧ TW w (w8.setCell ⟨w.heap.size + 1, 0, none⟩ v8) v8 (l ++ [c]) := by
  have n1 : ∀ k, v.ownBlock = some k → w.heap.size + 1 + 1 ≤ k := fun k hk => (h.vs.lt k hk).1
  have hr := h.res.below hW
  have ho := h.own.below hW
  have hb : Blk w8 (w.heap.size + 1) #[v] 106 := by
    unfold Blk
    rw [hg.block _ (Array.getElem?_eq_some_iff.1 ho).1 (fun e => by have := n1 _ e.symm; omega)]
    exact ho
  refine ⟨hb, ⟨?_, setB1 hb v8, ?_, ?_⟩⟩
  · unfold Blk
    rw [set_far _ _ _ _ _ (by omega), hg.block _ (Array.getElem?_eq_some_iff.1 hr).1 (fun e => by have := n1 _ e.symm; omega)]
    exact hr
  · rw [rchgs_snoc, List.length_append]
    refine h8.kept (grown_set w8 _ 0 _) ?_
    cases hs : v8.ownBlock with
    | none => exact .inl rfl
    | some k => exact .inr (fun e => by cases e; have := (h8.lt _ hs).1; omega)
  · have hb2 : Below w.heap.size w W := h.bl.trans (hW.mono h.bl.size)
    exact (hb2.grown hg (Nat.le_of_lt (by have := (Array.getElem?_eq_some_iff.1 hr).1; omega)) (fun k hk => by have := n1 k hk; omega)).setCell (p := ⟨w.heap.size + 1, 0, none⟩) (by simp) _
def posC (c : Pv.Chg) : Bool := decide (0 < c.2)
theorem posC_take (l : List Pv.Chg) (k : Nat) (h : k < l.length) : (l.take (k + 1)).filter posC = (l.take k).filter posC ++ (if posC l[k] = true then [l[k]] else []) := by
  rw [List.take_succ_eq_append_getElem h, List.filter_append]
  congr 1
  cases hq : posC l[k] <;> simp [hq]
/-- a table of these rows, all its own -/
def TabPost (w : World) (l : List Pv.Chg) (e : Ending) (w' : World) : Prop :=
  Below w.heap.size w w' ∧ ∃ x n c, e = .returned (.agg #[.slice x n c]) ∧ w'.ownsRow w.heap.size 50 4 (.slice x n c) l.length (rchgs l)
set_option maxRecDepth 100000 in
set_option maxHeartbeats 2000000 in
theorem ttable_any {w : World} {b : Nat} {v : Value} {l : List Pv.Chg} (hb : w.heap[b]? = some (.cells #[v] 146 (0, 0))) (hv : RdC w v l) (hl : l.length ≤ 1000) :
    Calls Tryz.prog 79 #[.pointer (some ⟨b, 0, none⟩)] w fun e w' => TabPost w (l.filter posC) e w' := by
  obtain ⟨i0, hi, hz0, hz1, hz2⟩ := info_parts infoChg
  have HV := hide hv
  have HB := hide hb
  have hbl : b < w.heap.size := (Array.getElem?_eq_some_iff.1 hb).1
  obtain ⟨av, nv, cv, rfl⟩ : ∃ a n c, v = .slice a n c := by
    rcases hv.form with ⟨h, _⟩ | ⟨g, off, cap, h, _⟩
    · exact ⟨_, _, _, h⟩
    · exact ⟨_, _, _, h⟩
  obtain rfl := hv.len
  clear hv hb
  go_enter Tryz.func79, Tryz.ntmps79
  go_upto_region 2 with fail
  have C0 := hide (K2.start w #[.slice none 0 0] 106 #[.slice none 0 0] 106)
  generalize ((w.alloc (.cells #[.slice none 0 0] 106)).alloc (.cells #[.slice none 0 0] 106)) = w0 at *
  go_wp2_with fail
  go_loopw [4] (fun r wr => ∃ k : Nat, k ≤ l.length ∧ r = .int .i64 k ∧ ∃ x n c, TW w wr (.slice x n c) ((l.take k).filter posC)) (fun r _ => l.length - (intOf r).toNat)
  case atStart => exact ⟨0, by omega, rfl, none, 0, 0, C0.out.a, C0.out.b, World.ownsRow_nil _ _ _ _, C0.out.bl⟩
  case round =>
    obtain ⟨k, hk, rfl, x, n, c, htw⟩ := hrel
    have T1 := hide htw
    clear htw
    have q0 : wr.cell? ⟨b, 0, none⟩ = some (.slice av l.length cv) := (T1.out.bl.cell (p := ⟨b, 0, none⟩) hbl).trans (cell_of_heap HB.out 0)
    have hsz : w.heap.size + 1 < wr.heap.size := (Array.getElem?_eq_some_iff.1 T1.out.own).1
    by_cases hlt : k < l.length
    · have hlt' : (k : Int) < (l.length : Int) := by omega
      obtain ⟨g, off, cap, e, hcap⟩ := HV.out.form1 (by omega)
      cases e
      obtain ⟨c0, c1, c2, c3⟩ := (HV.out.below T1.out.bl).cell k hlt
      have HFT := hide (posC_take l k hlt)
      have HPC : Hid (posC l[k] = decide (0 < l[k].2)) := rfl
      have hfl : ((l.take k).filter posC).length ≤ 1000 := by
        have := List.length_filter_le posC (l.take k)
        rw [List.length_take] at this; omega
      generalize (l.take k).filter posC = cur at *
      by_cases hp : 0 < l[k].2
      · rw [HPC.out, if_pos (by simp [hp])] at HFT
        have o0 : wr.cell? ⟨w.heap.size + 1, 0, none⟩ = some (.slice x n c) := T1.out.own.cell 0
        have oa : (wr.alloc (.cells #[.int .i64 l[k].1.1, .int .i64 l[k].1.2.1, .int .i64 l[k].1.2.2, .int .i64 l[k].2] 50)).cell? ⟨w.heap.size + 1, 0, none⟩ = some (.slice x n c) := by
          rw [((Below.refl wr.heap.size wr).alloc (Nat.le_refl _) _).cell (p := ⟨w.heap.size + 1, 0, none⟩) (by show w.heap.size + 1 < wr.heap.size; omega)]
          exact o0
        go_upto_region 6 with fail
        go_region_law (refine step_append_lies _ rfl (.tmp 24) (.tmp 32) 40 rfl (w.heap.size + 1 + 1) 50 i0 _ 4 32 Tryz.underlying40 hi hz0 hz1 hz2 rfl (by decide) _ cur.length (rchgs cur) rfl (T1.out.vs.alloc _).drew _ 1 1 (rchg l[k]) rfl rfl (World.news_of_block (heap_alloc_new _ _)) (by intro u hu; simp [rchg] at hu; rcases hu with rfl | rfl | rfl | rfl <;> rfl) (by decide) (by unfold maxLen; omega) (by omega) (by simp; omega) _ rfl ?_; intro g6 cap6 w6 hown6 hgrow6 hat6 hlt6; obtain ⟨hb6, PW6⟩ := T1.out.push (below_dB ((Below.refl _ _).alloc (Nat.le_refl _) _)) hgrow6 hown6; have y0 : w6.cell? ⟨w.heap.size + 1, 0, none⟩ = some (.slice x n c) := hb6.cell 0; have z0 := free_of_heap hb6 0; have HPW := hide PW6; clear hb6 PW6 hown6 hgrow6 hat6 hlt6)
        all_goals
          go_wp2
          go_roundw
          case rel => exact ⟨k + 1, by omega, by go_num, _, _, _, by rw [HFT.out]; exact HPW.out⟩
          case measure => simp [intOf]; omega
      · rw [HPC.out, if_neg (by simp [hp]), List.append_nil] at HFT
        go_wp2
        go_roundw
        case rel => exact ⟨k + 1, by omega, by go_num, x, n, c, by rw [HFT.out]; exact T1.out⟩
        case measure => simp [intOf]; omega
    · have hlt' : ¬ (k : Int) < (l.length : Int) := by omega
      obtain rfl : k = l.length := by omega
      rw [List.take_length] at T1
      have a0 : wr.cell? ⟨w.heap.size + 1, 0, none⟩ = some (.slice x n c) := T1.out.own.cell 0
      have r0 : wr.cell? ⟨w.heap.size, 0, none⟩ = some (.slice none 0 0) := T1.out.res.cell 0
      have f0 := free_of_heap T1.out.res 0
      have l0 := (setB1 T1.out.res (.slice x n c)).cell 0
      go_wp2
      refine bodyPost_ret (v := .agg #[.slice x n c]) (by simp [results, Tryz.results79, go_sem, l0]) rfl ⟨T1.out.bl.setCell (p := ⟨w.heap.size, 0, none⟩) (Nat.le_refl _) _, _, _, _, rfl, ?_⟩
      refine own_base2 (T1.out.vs.kept (grown_set wr w.heap.size 0 _) ?_) (by omega)
      cases hs : (Value.slice x n c).ownBlock with
      | none => exact .inl rfl
      | some k => exact .inr (fun e => by cases e; have := (T1.out.vs.lt _ hs).1; omega)
end Go.Proofs.YtcoofnhdbejnpaaGreatDoor

/- Package tables: After. -/
namespace Go.Proofs.YtcoofnhdbejnpaaGreatDoor
open Go.RowKit
/-- the table behind a batch, or why it may not be -/
def AfterPost (w : World) (t bt : List Pv.Chg) (e : Ending) (w' : World) : Prop :=
  Below w.heap.size w w' ∧
  (((Pv.refusedF t bt).1 ≠ 0 ∧ e = .returned (.tuple #[.agg #[.slice none 0 0], .int .i64 (Pv.refusedF t bt).1, .int .i64 ((Pv.refusedF t bt).2 : Nat)])) ∨
   ((Pv.refusedF t bt).1 = 0 ∧ ∃ x n c, e = .returned (.tuple #[.agg #[.slice x n c], .int .i64 0, .int .i64 0]) ∧ w'.ownsRow w.heap.size 50 4 (.slice x n c) (Pv.tableF t bt).length (rchgs (Pv.tableF t bt))))
theorem scan_ne {l : List Pv.Chg} {i : Nat} {x : Int × Nat} (h : Pv.scanF i l = some x) : x.1 ≠ 0 := by
  induction l generalizing i with
  | nil => simp [Pv.scanF] at h
  | cons c l ih =>
    rw [Pv.scanF] at h
    split at h
    · cases h; simp
    · split at h
      · cases h; simp
      · exact ih h
theorem chkB_ne {t bt : List Pv.Chg} (h : (Pv.chkB bt).1 ≠ 0) : Pv.refusedF t bt = Pv.chkB bt := by
  unfold Pv.chkB at h ⊢
  by_cases hl : 50 < bt.length
  · rw [Pv.refused_long hl, if_pos hl]
  · rw [if_neg hl] at h ⊢
    cases hs : Pv.scanF 0 bt with
    | none => rw [hs] at h; simp at h
    | some x => rw [Pv.refused_scan hl hs]
theorem chkB_ok {bt : List Pv.Chg} (h : (Pv.chkB bt).1 = 0) : ¬ 50 < bt.length ∧ Pv.scanF 0 bt = none := by
  unfold Pv.chkB at h
  by_cases hl : 50 < bt.length
  · rw [if_pos hl] at h; simp at h
  · rw [if_neg hl] at h
    refine ⟨hl, ?_⟩
    cases hs : Pv.scanF 0 bt with
    | none => rfl
    | some x => rw [hs] at h; exact absurd h (scan_ne hs)
theorem sums_le {t : List Pv.Chg} (bt : List Pv.Chg) (k : Nat) (h : k < bt.length) : (Pv.tableF t bt).any (fun d => decide (d.1 = bt[k].1) && decide (d.2 < 0)) = decide (Pv.sumOf (Pv.sumsF (t ++ bt)) bt[k].1 < 0) := by
  rw [Pv.less_any, Pv.sumsF_sum, Pv.sumOf_app]
set_option maxRecDepth 100000 in
set_option maxHeartbeats 4000000 in
theorem after_any {w : World} {vt vb : Value} {t bt : List Pv.Chg} (ht : RdC w vt t) (hb : RdC w vb bt) (hti : Pv.TInv t) (hbl : bt.length ≤ 4000000000000000000) :
    Calls Tryz.prog 47 #[.agg #[vt], vb] w fun e w' => AfterPost w t bt e w' := by
  have HT := hide ht
  have HBT := hide hb
  have HTI := hide hti
  obtain ⟨xt, nt, ct, rfl⟩ : ∃ a n c, vt = .slice a n c := by
    rcases ht.form with ⟨h, _⟩ | ⟨g, off, cap, h, _⟩
    · exact ⟨_, _, _, h⟩
    · exact ⟨_, _, _, h⟩
  obtain ⟨xb, nb, cb, rfl⟩ : ∃ a n c, vb = .slice a n c := by
    rcases hb.form with ⟨h, _⟩ | ⟨g, off, cap, h, _⟩
    · exact ⟨_, _, _, h⟩
    · exact ⟨_, _, _, h⟩
  obtain rfl := ht.len
  obtain rfl := hb.len
  clear ht hb hti
  go_enter Tryz.func47, Tryz.ntmps47
  go_upto_region 1 with fail
  have C0 := hide (K2.start w #[.slice xt t.length ct] 106 #[.slice none 0 0] 106)
  generalize ((w.alloc (.cells #[.slice xt t.length ct] 106)).alloc (.cells #[.slice none 0 0] 106)) = w0 at *
  go_wp2_with fail
  refine (checkBatch_any (HBT.out.below C0.out.bl) hbl).mono ?_
  rintro e w1 ⟨rfl, e1⟩
  have C1 := hide (C0.out.below e1)
  have B1 := hide e1
  clear e1
  have HRES : Hid (∀ W, Below w0.heap.size w0 W → Blk W (w.heap.size + 1) #[.slice none 0 0] 106 ∧ Below w.heap.size w W) := fun W h => ⟨(C0.out.below h).b, (C0.out.below h).bl⟩
  by_cases hc : (Pv.chkB bt).1 = 0
  · obtain ⟨hl50, hsc⟩ := chkB_ok hc
    have HSC := hide hsc
    have hsb := Pv.scan_none bt 0 hsc
    have HBB : Hid (∀ c ∈ bt, -40 ≤ c.2 ∧ c.2 ≤ 40) := fun c hc => Pv.cnt_bd (hsb c hc).2
    have HTB : Hid (∀ c ∈ t, -40 ≤ c.2 ∧ c.2 ≤ 40) := fun c hc => by have := HTI.out.bd c hc; omega
    have htl := HTI.out.len
    rw [hc]
    clear hsc hsb hc
    generalize ((Pv.chkB bt).2 : Int) = cc at *
    have a0 : w1.cell? ⟨w.heap.size, 0, none⟩ = some (.slice xt t.length ct) := cell_of_heap C1.out.a 0
    go_upto_region 4 with fail
    go_wp2_with fail
    refine (sumsWith_any (HT.out.below C1.out.bl) (HBT.out.below C1.out.bl) (by omega) (by omega) HTB.out HBB.out).mono ?_
    rintro e w2 ⟨e2, v2, rfl, own2⟩
    obtain ⟨x2, n2, c2, rfl⟩ := own_sl own2
    have B2 := hide (B1.out.trans (e2.mono B1.out.size))
    have O2 := hide own2
    clear a0 e2 own2
    have hsl : (Pv.sumsF (t ++ bt)).length ≤ 200 := by
      have := Pv.sumsF_len (t ++ bt)
      rw [List.length_append] at this; omega
    have HSR := hide (Pv.sumsF_srt (t ++ bt))
    have HLS : Hid (∀ k (h : k < bt.length), (Pv.tableF t bt).any (fun d => decide (d.1 = bt[k].1) && decide (d.2 < 0)) = decide (Pv.sumOf (Pv.sumsF (t ++ bt)) bt[k].1 < 0)) := fun k h => sums_le bt k h
    have HSB : Hid (∀ r, -8000 ≤ Pv.sumOf (Pv.sumsF (t ++ bt)) r ∧ Pv.sumOf (Pv.sumsF (t ++ bt)) r ≤ 8000) := fun r => by
      rw [Pv.sumsF_sum]
      have := Pv.sumOf_bd (l := t ++ bt) (b := 40) (fun c hc => by
        rcases List.mem_append.1 hc with h | h
        · exact HTB.out c h
        · exact HBB.out c h) (by omega) r
      rw [List.length_append] at this
      omega
    have HTO := hide (Pv.sums_total t bt)
    have HPO : Hid (Pv.lessF (Pv.tableF t bt) 0 bt = none → (Pv.sumsF (t ++ bt)).filter posC = Pv.tableF t bt) := fun h => Pv.sums_pos ⟨HTI.out.tab, fun c hc => by have := HTI.out.pos c hc; omega⟩ h
    generalize Pv.sumsF (t ++ bt) = ss at *
    go_upto_region 5 with fail
    have D3 := hide (heap_alloc_new w2 (.cells #[.slice x2 n2 c2] 146))
    have B3 := hide (B2.out.alloc B2.out.size (.cells #[.slice x2 n2 c2] 146))
    have R3 := hide ((RdC.ofOwn O2.out).below ((Below.refl w2.heap.size w2).alloc (Nat.le_refl _) (.cells #[.slice x2 n2 c2] 146)))
    have hs3 : w2.heap.size < (w2.alloc (.cells #[.slice x2 n2 c2] 146)).heap.size := by simp
    generalize w2.alloc (.cells #[.slice x2 n2 c2] 146) = w3 at *
    generalize w2.heap.size = b3 at *
    have HW3 : Hid (∀ W, Below w3.heap.size w3 W → W.heap[b3]? = some (.cells #[.slice x2 n2 c2] 146 (0, 0)) ∧ RdC W (.slice x2 n2 c2) ss ∧ Blk W (w.heap.size + 1) #[.slice none 0 0] 106 ∧ Below w.heap.size w W) := fun W h => by
      obtain ⟨h1, h2⟩ := HRES.out W (B3.out.trans (h.mono B3.out.size))
      exact ⟨(h.block _ hs3).trans D3.out, R3.out.below h, h1, h2⟩
    go_wp2_with fail
    go_loopw [10] (fun r wr => ∃ k : Nat, k ≤ bt.length ∧ r = .int .i64 k ∧ Below w3.heap.size w3 wr ∧ Hid (Pv.lessF (Pv.tableF t bt) k (bt.drop k) = Pv.lessF (Pv.tableF t bt) 0 bt)) (fun r _ => bt.length - (intOf r).toNat)
    case atStart => exact ⟨0, by omega, rfl, Below.refl _ _, rfl⟩
    case round =>
      obtain ⟨k, hk, rfl, hbe, HN⟩ := hrel
      have B4 := hide hbe
      clear hbe
      obtain ⟨h1, h2, h3, h4⟩ := HW3.out _ B4.out
      have HB4 := hide h1
      have R4 := hide h2
      have S4 := hide h3
      have W4 := hide h4
      clear h1 h2 h3 h4
      by_cases hlt : k < bt.length
      · have hlt' : (k : Int) < (bt.length : Int) := by omega
        obtain ⟨g, off, cap, e, hcap⟩ := HBT.out.form1 (by omega)
        cases e
        obtain ⟨c0, c1, c2', c3⟩ := (HBT.out.below W4.out).cell k hlt
        have HLD := hide (Pv.less_drop (Pv.tableF t bt) bt k hlt)
        rw [HLS.out k hlt] at HLD
        obtain ⟨s1, s2⟩ := HSB.out bt[k].1
        go_wp2_with fail
        refine (tof_any HB4.out R4.out (by omega) HSR.out bt[k].1.1 bt[k].1.2.1 bt[k].1.2.2).mono ?_
        rintro e w5 ⟨rfl, e5⟩
        have B5 := hide (B4.out.trans (e5.mono B4.out.size))
        obtain ⟨h1, h2, h3, h4⟩ := HW3.out _ B5.out
        have S5 := hide h3
        have W5 := hide h4
        clear h1 h2 h3 h4 e5 c0 c1 c2' c3
        have HEQ : Hid (Pv.sumOf ss bt[k].1 = Pv.sumOf ss (bt[k].1.1, bt[k].1.2.1, bt[k].1.2.2)) := rfl
        rw [HEQ.out] at HLD s1 s2
        generalize Pv.sumOf ss (bt[k].1.1, bt[k].1.2.1, bt[k].1.2.2) = sv at *
        by_cases hng : sv < 0
        · rw [if_pos (by simp [hng])] at HLD
          have HRF : Hid (Pv.refusedF t bt = (9, k)) := Pv.refused_less hl50 HSC.out (HN.out.symm.trans HLD.out)
          have r0 : w5.cell? ⟨w.heap.size + 1, 0, none⟩ = some (.slice none 0 0) := S5.out.cell 0
          have f0 := free_of_heap S5.out 0
          have l0 := (setB1 S5.out (.slice none 0 0)).cell 0
          go_wp2
          refine bodyPost_ret (v := .tuple #[.agg #[.slice none 0 0], .int .i64 9, .int .i64 (k : Int)]) (by simp [results, Tryz.results47, go_sem, l0]) rfl ⟨W5.out.setCell (p := ⟨w.heap.size + 1, 0, none⟩) (by simp) _, .inl ?_⟩
          rw [HRF.out]
          exact ⟨by simp, rfl⟩
        · rw [if_neg (by simp [hng])] at HLD
          go_wp2
          go_roundw
          case rel => exact ⟨k + 1, by omega, by go_num, B5.out, HLD.out.symm.trans HN.out⟩
          case measure => simp [intOf]; omega
      · have hlt' : ¬ (k : Int) < (bt.length : Int) := by omega
        have hln : Pv.lessF (Pv.tableF t bt) 0 bt = none := by
          rw [← HN.out, List.drop_eq_nil_of_le (by omega)]; rfl
        have HRE := hide (Pv.refused_end hl50 HSC.out hln)
        have HPT := hide (HPO.out hln)
        clear hln
        go_wp2_with fail
        refine (ttotal_any HB4.out R4.out (by omega) (fun c hc => by
          obtain ⟨j, hj, rfl⟩ := List.getElem_of_mem hc
          have h1 := Pv.srt_sum HSR.out j hj
          have h2 := HSB.out ss[j].1
          omega)).mono ?_
        rintro e w5 ⟨rfl, hw5⟩
        obtain rfl := hw5.symm
        rw [HTO.out]
        generalize Pv.totalF (Pv.tableF t bt) = tot at *
        by_cases h40 : 40 < tot
        · rw [if_pos h40] at HRE
          have r0 : wr.cell? ⟨w.heap.size + 1, 0, none⟩ = some (.slice none 0 0) := S4.out.cell 0
          have f0 := free_of_heap S4.out 0
          have l0 := (setB1 S4.out (.slice none 0 0)).cell 0
          go_wp2
          refine bodyPost_ret (v := .tuple #[.agg #[.slice none 0 0], .int .i64 10, .int .i64 0]) (by simp [results, Tryz.results47, go_sem, l0]) rfl ⟨W4.out.setCell (p := ⟨w.heap.size + 1, 0, none⟩) (by simp) _, .inl ?_⟩
          rw [HRE.out]
          exact ⟨by simp, rfl⟩
        · rw [if_neg h40] at HRE
          go_wp2_with fail
          refine (ttable_any HB4.out R4.out (by omega)).mono ?_
          rintro e w6 ⟨e6, x6, n6, c6, rfl, own6⟩
          rw [HPT.out] at own6
          have S6 := hide (S4.out.below e6)
          have W6 := hide (W4.out.trans (e6.mono W4.out.size))
          have O6 := hide own6
          have hw6 := W4.out.size
          have hw7 : w.heap.size + 1 < wr.heap.size := (Array.getElem?_eq_some_iff.1 S4.out).1
          have r0 : w6.cell? ⟨w.heap.size + 1, 0, none⟩ = some (.slice none 0 0) := S6.out.cell 0
          have f0 := free_of_heap S6.out 0
          have l0 := (setB1 S6.out (.slice x6 n6 c6)).cell 0
          clear e6 own6
          go_wp2
          refine bodyPost_ret (v := .tuple #[.agg #[.slice x6 n6 c6], .int .i64 0, .int .i64 0]) (by simp [results, Tryz.results47, go_sem, l0]) rfl ⟨W6.out.setCell (p := ⟨w.heap.size + 1, 0, none⟩) (by simp) _, .inr ?_⟩
          rw [HRE.out]
          refine ⟨rfl, x6, n6, c6, rfl, own_base2 (O6.out.kept (grown_set w6 (w.heap.size + 1) 0 _) ?_) hw6⟩
          cases hob : (Value.slice x6 n6 c6).ownBlock with
          | none => exact .inl rfl
          | some k2 =>
            right
            intro e
            cases e
            have := (O6.out.lt _ hob).1
            omega
  · have hc' : ((Pv.chkB bt).1 != 0) = true := by simp [hc]
    have HRF := hide (chkB_ne (t := t) hc)
    have HC := hide hc
    clear hc
    have S1 : Hid (Blk w1 (w.heap.size + 1) #[.slice none 0 0] 106) := C1.out.b
    have r0 : w1.cell? ⟨w.heap.size + 1, 0, none⟩ = some (.slice none 0 0) := S1.out.cell 0
    have f0 := free_of_heap S1.out 0
    have l0 := (setB1 S1.out (.slice none 0 0)).cell 0
    go_wp2
    refine bodyPost_ret (v := .tuple #[.agg #[.slice none 0 0], .int .i64 (Pv.chkB bt).1, .int .i64 ((Pv.chkB bt).2 : Nat)]) (by simp [results, Tryz.results47, go_sem, l0]) rfl ⟨C1.out.bl.setCell (p := ⟨w.heap.size + 1, 0, none⟩) (by simp) _, .inl ?_⟩
    rw [HRF.out]
    exact ⟨HC.out, rfl⟩
end Go.Proofs.YtcoofnhdbejnpaaGreatDoor

/- Package panes: New: a view of an empty table, or Plan's error and its place. -/
namespace Go.Proofs.YtcoofnhdbejnpaaGreatDoor
open Go.RowKit
/-- the cells of a view just made -/
def xView (vb vk vf : Value) (s : Pq.PS) (vt : Value) : Array Value := #[vb, vk, vf, .bool s.hasTop, .int .i64 s.top, .int .i64 s.frm, vt]
def NewPost (l : Pq.Bytes) (w : World) (e : Ending) (w' : World) : Prop :=
  Below w.heap.size w w' ∧
  ((Pq.readE l ≠ 0 ∧ e = .returned (.tuple #[.pointer none, .int .i64 (Pq.readE l), .int .i64 (Pq.readP l)])) ∨
   (Pq.readE l = 0 ∧ ∃ g vb vk vf, w.heap.size ≤ g ∧ g < w'.heap.size ∧ e = .returned (.tuple #[.pointer (some ⟨g, 0, none⟩), .int .i64 0, .int .i64 0]) ∧ w'.heap[g]? = some (.cells (xView vb vk vf (Pq.endPS l) (.slice none 0 0)) 114 (0, 0)) ∧
    w'.ownsRow w.heap.size 215 1 vb (Pq.endPS l).by'.length (colCells (Pq.endPS l).by') ∧ w'.ownsRow w.heap.size 253 2 vk (Pq.endPS l).keys.length (keyCells (Pq.endPS l).keys) ∧ w'.ownsRow w.heap.size 223 9 vf (Pq.endPS l).funcs.length (fnCells (Pq.endPS l).funcs) ∧
    (Pq.endPS l).by'.length ≤ 301 ∧ (Pq.endPS l).keys.length ≤ 301 ∧ (Pq.endPS l).funcs.length ≤ 301))
set_option maxHeartbeats 1000000 in
theorem new_any (s : ByteArray) (w : World) (hs : s.size ≤ maxLen) :
    Calls Tryz.prog 46 #[.string s] w fun e w' => NewPost s.data.toList w e w' := by
  go_enter Tryz.func46, Tryz.ntmps46
  go_wp2_with fail
  refine (read_any s _ hs).mono ?_
  rintro e w1 ⟨b1, h1⟩
  rcases h1 with ⟨hne, rfl⟩ | ⟨h0, vb, vk, vf, rfl, o1, o2, o3, l1, l2, l3⟩
  · have HNE := hide hne
    generalize hee : Pq.readE s.data.toList = ee at *
    generalize hpp : Pq.readP s.data.toList = pp at *
    have HEE := hide hee
    have HPP := hide hpp
    clear hee hpp
    have hne' : (ee != 0) = true := by simp [hne]
    clear hne
    go_wp2
    go_ret3
    refine ⟨b1.alloc b1.size _, .inl ?_⟩
    rw [HEE.out, HPP.out]
    exact ⟨HNE.out, rfl⟩
  · have H0 := hide h0
    obtain ⟨a1, p1, rfl⟩ := own_slice o1
    obtain ⟨a2, p2, rfl⟩ := own_slice o2
    obtain ⟨a3, p3, rfl⟩ := own_slice o3
    have HL := hide (And.intro l1 (And.intro l2 l3))
    have O1 := hide o1
    have O2 := hide o2
    have O3 := hide o3
    clear o1 o2 o3 h0 l1 l2 l3
    go_wp2
    go_ret3
    have hb := b1.size
    exact ⟨(b1.alloc b1.size _).alloc (by simp; omega) _, .inr ⟨H0.out, w1.heap.size + 1, _, _, _, by omega, by simp, rfl, by rw [show w1.heap.size + 1 = (w1.alloc (.cells #[.slice a1 (Pq.endPS s.data.toList).by'.length p1, .slice a2 (Pq.endPS s.data.toList).keys.length p2, .slice a3 (Pq.endPS s.data.toList).funcs.length p3, .bool (Pq.endPS s.data.toList).hasTop, .int .i64 (Pq.endPS s.data.toList).top, .int .i64 (Pq.endPS s.data.toList).frm] 112)).heap.size from by simp]; exact heap_alloc_new _ _, (O1.out.alloc _).alloc _, (O2.out.alloc _).alloc _, (O3.out.alloc _).alloc _, HL.out⟩⟩
end Go.Proofs.YtcoofnhdbejnpaaGreatDoor

/- Package panes: shown, Rows, Table, Apply. -/
namespace Go.Proofs.YtcoofnhdbejnpaaGreatDoor
open Go.RowKit
/-- a view's cells -/
def xCells (vb vk vf : Value) (has : Bool) (tp fr : Int) (vt : Value) : Array Value := #[vb, vk, vf, .bool has, .int .i64 tp, .int .i64 fr, vt]
/-- a view in memory -/
structure XV (w : World) (gx : Nat) (vb vk vf : Value) (has : Bool) (tp fr : Int) (vt : Value) (Q : Pv.Qry) (t : List Pv.Chg) : Prop where
  blk : w.heap[gx]? = some (.cells (xCells vb vk vf has tp fr vt) 114 (0, 0))
  q : QX w vb vk vf has tp fr Q
  rt : RdC w vt t
  inv : Pv.TInv t
theorem XV.below {w w' : World} {gx : Nat} {vb vk vf vt : Value} {has : Bool} {tp fr : Int} {Q : Pv.Qry} {t : List Pv.Chg} (h : XV w gx vb vk vf has tp fr vt Q t) (hb : Below w.heap.size w w') : XV w' gx vb vk vf has tp fr vt Q t :=
  ⟨(hb.block gx (Array.getElem?_eq_some_iff.1 h.blk).1).trans h.blk, h.q.below hb, h.rt.below hb, h.inv⟩
/-- the out rows of each copy -/
def ShowPost (w : World) (l : List Pv.Out) (e : Ending) (w' : World) : Prop := Below w.heap.size w w' ∧ ∃ x n c, e = .returned (.slice x n c) ∧ OwnO w' w.heap.size (.slice x n c) l
theorem rdc_sl {w : World} {v : Value} {l : List Pv.Chg} (h : RdC w v l) : ∃ a c, v = .slice a l.length c := by
  rcases h.form with ⟨h, e⟩ | ⟨g, off, cap, h, _⟩
  · exact ⟨none, 0, by rw [h, e]; rfl⟩
  · exact ⟨_, _, h⟩
theorem OwnO.sl3 {w : World} {B : Nat} {v : Value} {l : List Pv.Out} (h : OwnO w B v l) : ∃ x n c, v = .slice x n c := by
  obtain ⟨vs, _, h2⟩ := h
  exact own_sl h2
theorem OwnO.base {w : World} {B B' : Nat} {v : Value} {l : List Pv.Out} (h : OwnO w B v l) (hB : B' ≤ B) : OwnO w B' v l := by
  obtain ⟨vs, h1, h2⟩ := h
  exact ⟨vs, h1, own_base2 h2 hB⟩
set_option maxRecDepth 100000 in
set_option maxHeartbeats 2000000 in
theorem xshown_any {w : World} {gx : Nat} {vb vk vf vt : Value} {has : Bool} {tp fr : Int} {Q : Pv.Qry} {t t2 : List Pv.Chg} {v2 : Value} (h : XV w gx vb vk vf has tp fr vt Q t) (h2 : RdC w v2 t2) (hi2 : Pv.TInv t2) :
    Calls Tryz.prog 48 #[.pointer (some ⟨gx, 0, none⟩), .agg #[v2]] w fun e w' => ShowPost w (Pv.outsP Q (Pv.linesP Q.ks Q.cs t2)) e w' := by
  have HH := hide h
  have H2 := hide h2
  have HI := hide hi2
  obtain ⟨x2, c2, rfl⟩ := rdc_sl h2
  obtain ⟨xb, cb, rfl⟩ := RdG.sl h.q.rb
  obtain ⟨xk, ck, rfl⟩ := RdG.sl h.q.rk
  obtain ⟨xf, cf, rfl⟩ := RdG.sl h.q.rf
  clear h h2 hi2
  go_enter Tryz.func48, Tryz.ntmps48
  go_upto_region 1 with fail
  have C0 := hide (K1.start w #[.slice x2 t2.length c2] 106)
  generalize w.alloc (.cells #[.slice x2 t2.length c2] 106) = w0 at *
  have a0 : w0.cell? ⟨w.heap.size, 0, none⟩ = some (.slice x2 t2.length c2) := cell_of_heap C0.out.a 0
  have hlen := HI.out.len
  go_wp2_with fail
  refine (tlist_any (H2.out.below C0.out.bl) (by omega)).mono ?_
  rintro e w1 ⟨e1, u, rfl, own1⟩
  obtain ⟨x1, n1, c1, rfl⟩ := own_sl own1
  have C1 := hide (C0.out.below e1)
  have R1 := hide (RdC.ofOwn own1)
  have HV := hide (HH.out.below C1.out.bl)
  have q0 : w1.cell? ⟨gx, 0, none⟩ = some (.slice xb Q.cs.length cb) := cell_of_heap HV.out.blk 0
  have q1 : w1.cell? ⟨gx, 1, none⟩ = some (.slice xk Q.ks.length ck) := cell_of_heap HV.out.blk 1
  have q2 : w1.cell? ⟨gx, 2, none⟩ = some (.slice xf Q.fs.length cf) := cell_of_heap HV.out.blk 2
  have q3 : w1.cell? ⟨gx, 3, none⟩ = some (.bool has) := cell_of_heap HV.out.blk 3
  have q4 : w1.cell? ⟨gx, 4, none⟩ = some (.int .i64 tp) := cell_of_heap HV.out.blk 4
  have q5 : w1.cell? ⟨gx, 5, none⟩ = some (.int .i64 fr) := cell_of_heap HV.out.blk 5
  clear a0 e1 own1
  go_wp2_with fail
  refine (lOuts_any HV.out.q R1.out HI.out).mono ?_
  rintro e w2 ⟨e2, v, rfl, own2⟩
  obtain ⟨x3, n3, c3, rfl⟩ := own2.sl3
  have B2 := hide (C1.out.below e2).bl
  have O2 := hide own2
  have hs := C1.out.bl.size
  clear e2 own2 q0 q1 q2 q3 q4 q5
  go_wp2
  go_ret
  exact ⟨B2.out, _, _, _, rfl, O2.out.base hs⟩
theorem outs_small {w : World} {vb vk vf : Value} {has : Bool} {tp fr : Int} {Q : Pv.Qry} (h : QX w vb vk vf has tp fr Q) {t : List Pv.Chg} (ht : Pv.TInv t) : (Pv.outsP Q (Pv.linesP Q.ks Q.cs t)).length ≤ 160000 := by
  have h1 := outs_len Q (Pv.linesP Q.ks Q.cs t) 4000 (fun l hl => (lines_ok h ht l hl).2)
  have h2 := (Pv.lines_len Q.ks Q.cs t 40 (fun c hc => by have := ht.bd c hc; omega) t.length (Nat.le_refl _)).1
  rw [List.take_length] at h2
  have h3 := ht.len
  have h4 : (Pv.linesP Q.ks Q.cs t).length * 4000 ≤ 40 * 4000 := Nat.mul_le_mul_right _ (by omega)
  omega
theorem rd_later {w1 w2 : World} {v : Value} {l : List Pv.Out} {B : Nat} (h : OwnO w1 B v l) (hb : Below w1.heap.size w1 w2) : ∀ W, Below w1.heap.size w2 W → RdO W v l := fun _ hW => h.rd.below (hb.trans hW)
set_option maxRecDepth 100000 in
set_option maxHeartbeats 2000000 in
theorem xrows_any {w : World} {gx : Nat} {vb vk vf vt : Value} {has : Bool} {tp fr : Int} {Q : Pv.Qry} {t : List Pv.Chg} (h : XV w gx vb vk vf has tp fr vt Q t) :
    Calls Tryz.prog 19 #[.pointer (some ⟨gx, 0, none⟩)] w fun e w' => ListPost w (Pv.rowsF Q t) e w' := by
  have HH := hide h
  obtain ⟨xt, ct, rfl⟩ := rdc_sl h.rt
  have q6 : w.cell? ⟨gx, 6, none⟩ = some (.slice xt t.length ct) := cell_of_heap h.blk 6
  have HSM := hide (outs_small h.q h.inv)
  have HOK := hide (Pv.outsP_ok Q (Pv.linesP Q.ks Q.cs t))
  have HEQ := hide (Pv.rowsP_eq (q := Q) h.inv)
  have hfl := h.q.fl
  clear h
  have HRP : Hid (Pv.rowsP Q t = (Pv.addAll 1 (Pv.outsP Q (Pv.linesP Q.ks Q.cs t)) []).filter nzO) := rfl
  go_enter Tryz.func19, Tryz.ntmps19
  go_wp2_with fail
  refine (xshown_any HH.out HH.out.rt HH.out.inv).mono ?_
  rintro e w1 ⟨e1, x1, n1, c1, rfl, own1⟩
  have B1 := hide e1
  have O1 := hide own1
  clear e1 own1 q6
  generalize Pv.outsP Q (Pv.linesP Q.ks Q.cs t) = os at *
  go_upto_region 3 with fail
  have D2 := hide (heap_alloc_new w1 (.cells #[.slice none 0 0] 118))
  have B2 := hide ((Below.refl w1.heap.size w1).alloc (Nat.le_refl _) (.cells #[.slice none 0 0] 118))
  generalize w1.alloc (.cells #[.slice none 0 0] 118) = w2 at *
  have HS0 := hide (Pv.SumOk.nil Q.fs.length)
  have hsm : 0 + os.length ≤ 1000000 := by have := HSM.out; omega
  go_wp2_with fail
  refine (oAdd_any (d := Q.fs.length) (m := 0) (P := []) D2.out (OwnP.nil _ _) (Nat.le_refl _) B2.out.size HS0.out (rd_later O1.out B2.out) HOK.out hfl hsm).mono ?_
  rintro e w3 ⟨rfl, e3, v3, P3, hb3, hP3, hm3⟩
  have HS3 := hide ((Pv.SumOk.all (d := Q.fs.length) (sign := 1) (.inl rfl) os (Pv.SumOk.nil Q.fs.length) HOK.out).1)
  have HB3 := hide hb3
  have HP3 := hide hP3
  have HM3 : Hid (P3.map (·.1) = Pv.addAll 1 os []) := hm3
  have HD3 : Hid (∀ x ∈ P3, x.1.2.1.length ≤ 1000) := fun x hx => by
    have := HS3.out.vals x.1 (by rw [← HM3.out]; exact List.mem_map.2 ⟨x, hx, rfl⟩)
    omega
  have HL3 : Hid (P3.length ≤ 1000000) := by
    show _ ≤ _
    have h1 := HS3.out.len
    rw [← HM3.out, List.length_map] at h1
    omega
  have B3 := hide ((B1.out.trans ((B2.out.trans e3).mono B1.out.size)))
  clear e3 hb3 hP3 hm3
  go_wp2_with fail
  refine (oList_any HB3.out HP3.out HD3.out HL3.out).mono ?_
  rintro e w4 ⟨e4, u, P4, rfl, hq4, hm4⟩
  have HQ4 := hide hq4
  obtain ⟨x4, n4, c4, rfl⟩ := own_sl hq4.row
  have HM4 : Hid (P4.map (·.1) = Pv.rowsF Q t) := by
    show _ = _
    rw [← HEQ.out, HRP.out, hm4, HM3.out]
  have B4 := hide (B3.out.trans (e4.mono B3.out.size))
  have hs4 := B3.out.size
  clear e4 hq4 hm4
  go_wp2
  go_ret
  exact ⟨B4.out, _, P4, rfl, HQ4.out.base hs4, HM4.out⟩
end Go.Proofs.YtcoofnhdbejnpaaGreatDoor

