/- Package tables: sumsWith. -/
import Derived.Test.YtcoofnhdbejnpaaGreatDoorG23
import Derived.Test.YtcoofnhdbejnpaaGreatDoorG43
import Derived.Test.YtcoofnhdbejnpaaGreatDoorG04
namespace Go.Proofs.YtcoofnhdbejnpaaGreatDoor
open Go.RowKit
theorem SW.from {w0 W : World} {b B : Nat} {L : List Pv.Chg} (h : SW w0 W b B L) : ∀ k, k < B → W.heap[k]? = w0.heap[k]? := fun k hk => h.1.block k hk
set_option maxRecDepth 100000 in
set_option maxHeartbeats 2000000 in
theorem sumsWith_any {w : World} {vt vb : Value} {t bt : List Pv.Chg} (ht : RdC w vt t) (hb : RdC w vb bt) (hl1 : t.length ≤ 100) (hl2 : bt.length ≤ 100) (hbd1 : ∀ c ∈ t, -40 ≤ c.2 ∧ c.2 ≤ 40) (hbd2 : ∀ c ∈ bt, -40 ≤ c.2 ∧ c.2 ≤ 40) :
    Calls Tryz.prog 76 #[.agg #[vt], vb] w fun e w' => Below w.heap.size w w' ∧ ∃ v, e = .returned (.agg #[v]) ∧ w'.ownsRow w.heap.size 50 4 v (Pv.sumsF (t ++ bt)).length (rchgs (Pv.sumsF (t ++ bt))) := by
  have HT := hide ht
  have HBT := hide hb
  have H1 := hide hbd1
  have H2 := hide hbd2
  obtain ⟨xt, nt, ct, rfl⟩ : ∃ a n c, vt = .slice a n c := by
    rcases ht.form with ⟨h, _⟩ | ⟨g, off, cap, h, _⟩
    · exact ⟨_, _, _, h⟩
    · exact ⟨_, _, _, h⟩
  obtain ⟨xb, nb, cb, rfl⟩ : ∃ a n c, vb = .slice a n c := by
    rcases hb.form with ⟨h, _⟩ | ⟨g, off, cap, h, _⟩
    · exact ⟨_, _, _, h⟩
    · exact ⟨_, _, _, h⟩
  obtain rfl := ht.len
  obtain rfl := hb.len
  clear ht hb hbd1 hbd2
  go_enter Tryz.func76, Tryz.ntmps76
  go_upto_region 2 with fail
  have C0 := hide (K3.start w #[.slice xt t.length ct] 106 #[.slice none 0 0] 146 #[.slice none 0 0] 146)
  generalize (((w.alloc (.cells #[.slice xt t.length ct] 106)).alloc (.cells #[.slice none 0 0] 146)).alloc (.cells #[.slice none 0 0] 146)) = w0 at *
  have hs0 : w.heap.size + 1 + 1 < w0.heap.size := (Array.getElem?_eq_some_iff.1 C0.out.c).1
  have HW : Hid (∀ W L, SW w0 W (w.heap.size + 1 + 1) (w.heap.size + 1 + 1) L → Below w.heap.size w W ∧ W.cell? ⟨w.heap.size, 0, none⟩ = some (.slice xt t.length ct) ∧ Blk W (w.heap.size + 1) #[.slice none 0 0] 146) := fun W L h => by
    refine ⟨C0.out.bl.trans (h.1.mono (by omega)), ?_, ?_⟩
    · have e : W.heap[w.heap.size]? = some (.cells #[.slice xt t.length ct] 106 (0, 0)) := (h.1.block _ (by omega)).trans C0.out.a
      exact cell_of_heap e 0
    · exact (h.1.block _ (by omega)).trans C0.out.b
  go_wp2
  go_loopw [6] (fun i wr => ∃ k : Nat, k ≤ t.length ∧ i = .int .i64 k ∧ SW w0 wr (w.heap.size + 1 + 1) (w.heap.size + 1 + 1) (t.take k)) (fun i _ => t.length - (intOf i).toNat)
  case atStart => exact ⟨0, by omega, rfl, Below.refl _ _, _, C0.out.c, World.ownsRow_nil _ _ _ _⟩
  case round =>
    obtain ⟨k, hk, rfl, hsw⟩ := hrel
    have S1 := hide hsw
    clear hsw
    obtain ⟨be1, q0, _⟩ := HW.out _ _ S1.out
    have B1 := hide be1
    clear be1
    by_cases hlt : k < t.length
    · have hlt' : (k : Int) < (t.length : Int) := by omega
      obtain ⟨g, off, cap, e, hcap⟩ := HT.out.form1 (by omega)
      cases e
      obtain ⟨c0, c1, c2, c3⟩ := (HT.out.below B1.out).cell k hlt
      have HTK := hide (List.take_succ_eq_append_getElem hlt)
      go_wp2_with fail
      refine (S1.out.step (Nat.le_refl _) (by omega) t[k] (fun c hc => H1.out c (List.mem_of_mem_take hc)) (by rw [List.length_take]; omega) (H1.out _ (List.getElem_mem hlt))).mono ?_
      rintro e w3 ⟨rfl, s3⟩
      have S3 := hide s3
      clear s3 c0 c1 c2 c3 q0
      go_wp2
      go_roundw
      case rel => exact ⟨k + 1, by omega, by go_num, by rw [HTK.out]; exact S3.out⟩
      case measure => simp [intOf]; omega
    · have hlt' : ¬ (k : Int) < (t.length : Int) := by omega
      obtain rfl : k = t.length := by omega
      rw [List.take_length] at S1
      go_wp2
      generalize wr = wq at *
      go_loopw [7] (fun i wr => ∃ k : Nat, k ≤ bt.length ∧ i = .int .i64 k ∧ SW w0 wr (w.heap.size + 1 + 1) (w.heap.size + 1 + 1) (t ++ bt.take k)) (fun i _ => bt.length - (intOf i).toNat)
      case atStart => exact ⟨0, by omega, rfl, by simpa using S1.out⟩
      case round =>
        obtain ⟨k, hk, rfl, hsw⟩ := hrel
        have S2 := hide hsw
        clear hsw
        obtain ⟨be2, _, r2⟩ := HW.out _ _ S2.out
        have B2 := hide be2
        have R2 := hide r2
        clear be2 r2
        by_cases hlt : k < bt.length
        · have hlt' : (k : Int) < (bt.length : Int) := by omega
          obtain ⟨g, off, cap, e, hcap⟩ := HBT.out.form1 (by omega)
          cases e
          obtain ⟨c0, c1, c2, c3⟩ := (HBT.out.below B2.out).cell k hlt
          have HTK : Hid (t ++ bt.take (k + 1) = (t ++ bt.take k) ++ [bt[k]]) := by show _ = _; rw [List.take_succ_eq_append_getElem hlt, List.append_assoc]
          go_wp2_with fail
          refine (S2.out.step (Nat.le_refl _) (by omega) bt[k] (fun c hc => by
            rcases List.mem_append.1 hc with h | h
            · exact H1.out c h
            · exact H2.out c (List.mem_of_mem_take h)) (by rw [List.length_append, List.length_take]; omega) (H2.out _ (List.getElem_mem hlt))).mono ?_
          rintro e w3 ⟨rfl, s3⟩
          have S3 := hide s3
          clear s3 c0 c1 c2 c3
          go_wp2
          go_roundw
          case rel => exact ⟨k + 1, by omega, by go_num, by rw [HTK.out]; exact S3.out⟩
          case measure => simp [intOf]; omega
        · have hlt' : ¬ (k : Int) < (bt.length : Int) := by omega
          obtain rfl : k = bt.length := by omega
          rw [List.take_length] at S2
          obtain ⟨_, v, hv, how⟩ := S2.out
          obtain ⟨xv, nv, cv, rfl⟩ := own_sl how
          have HOW := hide how
          have v0 : wr.cell? ⟨w.heap.size + 1 + 1, 0, none⟩ = some (.slice xv nv cv) := cell_of_heap hv 0
          have u0 : wr.cell? ⟨w.heap.size + 1, 0, none⟩ = some (.slice none 0 0) := R2.out.cell 0
          have fz := free_of_heap R2.out 0
          have hR2 : wr.heap[w.heap.size + 1]? = some (.cells #[.slice none 0 0] 146 (0, 0)) := R2.out
          have l0 : (wr.setCell ⟨w.heap.size + 1, 0, none⟩ (.slice xv nv cv)).cell? ⟨w.heap.size + 1, 0, none⟩ = some (.slice xv nv cv) := by
            simp [World.cell?, World.setCell, Array.getElem?_modify, hR2]
          clear hv how hR2
          go_wp2
          refine bodyPost_ret (v := .agg #[.slice xv nv cv]) (by simp [results, Tryz.results76, go_sem, l0]) rfl ⟨B2.out.setCell (p := ⟨w.heap.size + 1, 0, none⟩) (by simp) _, _, rfl, ?_⟩
          refine own_base2 (HOW.out.kept (grown_set wr (w.heap.size + 1) 0 _) ?_) (by omega)
          cases hob : (Value.slice xv nv cv).ownBlock with
          | none => exact .inl rfl
          | some k2 =>
            right
            intro e
            cases e
            have := (HOW.out.lt _ hob).1
            omega
end Go.Proofs.YtcoofnhdbejnpaaGreatDoor

/- Package tables: table, After. -/
namespace Go.Proofs.YtcoofnhdbejnpaaGreatDoor
open Go.RowKit
/-- the table as it is made -/
structure TW (w wy : World) (v : Value) (l : List Pv.Chg) : Prop where
  res : Blk wy w.heap.size #[.slice none 0 0] 106
  own : Blk wy (w.heap.size + 1) #[v] 106
  vs : wy.ownsRow (w.heap.size + 1 + 1) 50 4 v l.length (rchgs l)
  bl : Below w.heap.size w wy
theorem setB1 {W : World} {b : Nat} {v0 : Value} {T : Nat} (h : Blk W b #[v0] T) (x : Value) : Blk (W.setCell ⟨b, 0, none⟩ x) b #[x] T := by
  have h' : W.heap[b]? = some (.cells #[v0] T (0, 0)) := h
  simp [Blk, World.setCell, Array.getElem?_modify, h']
theorem TW.push {w wy W w8 : World} {v v8 : Value} {l : List Pv.Chg} {c : Pv.Chg} (h : TW w wy v l) (hW : Below wy.heap.size wy W) (hg : W.grownBy w8 v.ownBlock) (h8 : w8.ownsRow (w.heap.size + 1 + 1) 50 4 v8 (l.length + 1) (rchgs l ++ rchg c)) :
    Blk w8 (w.heap.size + 1) #[v] 106 ∧ TW w (w8.setCell ⟨w.heap.size + 1, 0, none⟩ v8) v8 (l ++ [c]) := by
  have n1 : ∀ k, v.ownBlock = some k → w.heap.size + 1 + 1 ≤ k := fun k hk => (h.vs.lt k hk).1
  have hr := h.res.below hW
  have ho := h.own.below hW
  have hb : Blk w8 (w.heap.size + 1) #[v] 106 := by
    unfold Blk
    rw [hg.block _ (Array.getElem?_eq_some_iff.1 ho).1 (fun e => by have := n1 _ e.symm; omega)]
    exact ho
  refine ⟨hb, ⟨?_, setB1 hb v8, ?_, ?_⟩⟩
  · unfold Blk
    rw [set_far _ _ _ _ _ (by omega), hg.block _ (Array.getElem?_eq_some_iff.1 hr).1 (fun e => by have := n1 _ e.symm; omega)]
    exact hr
  · rw [rchgs_snoc, List.length_append]
    refine h8.kept (grown_set w8 _ 0 _) ?_
    cases hs : v8.ownBlock with
    | none => exact .inl rfl
    | some k => exact .inr (fun e => by cases e; have := (h8.lt _ hs).1; omega)
  · have hb2 : Below w.heap.size w W := h.bl.trans (hW.mono h.bl.size)
    exact (hb2.grown hg (Nat.le_of_lt (by have := (Array.getElem?_eq_some_iff.1 hr).1; omega)) (fun k hk => by have := n1 k hk; omega)).setCell (p := ⟨w.heap.size + 1, 0, none⟩) (by simp) _
def posC (c : Pv.Chg) : Bool := decide (0 < c.2)
theorem posC_take (l : List Pv.Chg) (k : Nat) (h : k < l.length) : (l.take (k + 1)).filter posC = (l.take k).filter posC ++ (if posC l[k] = true then [l[k]] else []) := by
  rw [List.take_succ_eq_append_getElem h, List.filter_append]
  congr 1
  cases hq : posC l[k] <;> simp [hq]
/-- a table of these rows, all its own -/
def TabPost (w : World) (l : List Pv.Chg) (e : Ending) (w' : World) : Prop :=
  Below w.heap.size w w' ∧ ∃ x n c, e = .returned (.agg #[.slice x n c]) ∧ w'.ownsRow w.heap.size 50 4 (.slice x n c) l.length (rchgs l)
set_option maxRecDepth 100000 in
set_option maxHeartbeats 2000000 in
theorem ttable_any {w : World} {b : Nat} {v : Value} {l : List Pv.Chg} (hb : w.heap[b]? = some (.cells #[v] 146 (0, 0))) (hv : RdC w v l) (hl : l.length ≤ 1000) :
    Calls Tryz.prog 79 #[.pointer (some ⟨b, 0, none⟩)] w fun e w' => TabPost w (l.filter posC) e w' := by
  obtain ⟨i0, hi, hz0, hz1, hz2⟩ := info_parts infoChg
  have HV := hide hv
  have HB := hide hb
  have hbl : b < w.heap.size := (Array.getElem?_eq_some_iff.1 hb).1
  obtain ⟨av, nv, cv, rfl⟩ : ∃ a n c, v = .slice a n c := by
    rcases hv.form with ⟨h, _⟩ | ⟨g, off, cap, h, _⟩
    · exact ⟨_, _, _, h⟩
    · exact ⟨_, _, _, h⟩
  obtain rfl := hv.len
  clear hv hb
  go_enter Tryz.func79, Tryz.ntmps79
  go_upto_region 2 with fail
  have C0 := hide (K2.start w #[.slice none 0 0] 106 #[.slice none 0 0] 106)
  generalize ((w.alloc (.cells #[.slice none 0 0] 106)).alloc (.cells #[.slice none 0 0] 106)) = w0 at *
  go_wp2_with fail
  go_loopw [4] (fun r wr => ∃ k : Nat, k ≤ l.length ∧ r = .int .i64 k ∧ ∃ x n c, TW w wr (.slice x n c) ((l.take k).filter posC)) (fun r _ => l.length - (intOf r).toNat)
  case atStart => exact ⟨0, by omega, rfl, none, 0, 0, C0.out.a, C0.out.b, World.ownsRow_nil _ _ _ _, C0.out.bl⟩
  case round =>
    obtain ⟨k, hk, rfl, x, n, c, htw⟩ := hrel
    have T1 := hide htw
    clear htw
    have q0 : wr.cell? ⟨b, 0, none⟩ = some (.slice av l.length cv) := (T1.out.bl.cell (p := ⟨b, 0, none⟩) hbl).trans (cell_of_heap HB.out 0)
    have hsz : w.heap.size + 1 < wr.heap.size := (Array.getElem?_eq_some_iff.1 T1.out.own).1
    by_cases hlt : k < l.length
    · have hlt' : (k : Int) < (l.length : Int) := by omega
      obtain ⟨g, off, cap, e, hcap⟩ := HV.out.form1 (by omega)
      cases e
      obtain ⟨c0, c1, c2, c3⟩ := (HV.out.below T1.out.bl).cell k hlt
      have HFT := hide (posC_take l k hlt)
      have HPC : Hid (posC l[k] = decide (0 < l[k].2)) := rfl
      have hfl : ((l.take k).filter posC).length ≤ 1000 := by
        have := List.length_filter_le posC (l.take k)
        rw [List.length_take] at this; omega
      generalize (l.take k).filter posC = cur at *
      by_cases hp : 0 < l[k].2
      · rw [HPC.out, if_pos (by simp [hp])] at HFT
        have o0 : wr.cell? ⟨w.heap.size + 1, 0, none⟩ = some (.slice x n c) := T1.out.own.cell 0
        have oa : (wr.alloc (.cells #[.int .i64 l[k].1.1, .int .i64 l[k].1.2.1, .int .i64 l[k].1.2.2, .int .i64 l[k].2] 50)).cell? ⟨w.heap.size + 1, 0, none⟩ = some (.slice x n c) := by
          rw [((Below.refl wr.heap.size wr).alloc (Nat.le_refl _) _).cell (p := ⟨w.heap.size + 1, 0, none⟩) (by show w.heap.size + 1 < wr.heap.size; omega)]
          exact o0
        go_upto_region 6 with fail
        go_region_law (refine step_append_lies _ rfl (.tmp 24) (.tmp 32) 40 rfl (w.heap.size + 1 + 1) 50 i0 _ 4 32 Tryz.underlying40 hi hz0 hz1 hz2 rfl (by decide) _ cur.length (rchgs cur) rfl (T1.out.vs.alloc _).drew _ 1 1 (rchg l[k]) rfl rfl (World.news_of_block (heap_alloc_new _ _)) (by intro u hu; simp [rchg] at hu; rcases hu with rfl | rfl | rfl | rfl <;> rfl) (by decide) (by unfold maxLen; omega) (by omega) (by simp; omega) _ rfl ?_; intro g6 cap6 w6 hown6 hgrow6 hat6 hlt6; obtain ⟨hb6, PW6⟩ := T1.out.push (below_dB ((Below.refl _ _).alloc (Nat.le_refl _) _)) hgrow6 hown6; have y0 : w6.cell? ⟨w.heap.size + 1, 0, none⟩ = some (.slice x n c) := hb6.cell 0; have z0 := free_of_heap hb6 0; have HPW := hide PW6; clear hb6 PW6 hown6 hgrow6 hat6 hlt6)
        all_goals
          go_wp2
          go_roundw
          case rel => exact ⟨k + 1, by omega, by go_num, _, _, _, by rw [HFT.out]; exact HPW.out⟩
          case measure => simp [intOf]; omega
      · rw [HPC.out, if_neg (by simp [hp]), List.append_nil] at HFT
        go_wp2
        go_roundw
        case rel => exact ⟨k + 1, by omega, by go_num, x, n, c, by rw [HFT.out]; exact T1.out⟩
        case measure => simp [intOf]; omega
    · have hlt' : ¬ (k : Int) < (l.length : Int) := by omega
      obtain rfl : k = l.length := by omega
      rw [List.take_length] at T1
      have a0 : wr.cell? ⟨w.heap.size + 1, 0, none⟩ = some (.slice x n c) := T1.out.own.cell 0
      have r0 : wr.cell? ⟨w.heap.size, 0, none⟩ = some (.slice none 0 0) := T1.out.res.cell 0
      have f0 := free_of_heap T1.out.res 0
      have l0 := (setB1 T1.out.res (.slice x n c)).cell 0
      go_wp2
      refine bodyPost_ret (v := .agg #[.slice x n c]) (by simp [results, Tryz.results79, go_sem, l0]) rfl ⟨T1.out.bl.setCell (p := ⟨w.heap.size, 0, none⟩) (Nat.le_refl _) _, _, _, _, rfl, ?_⟩
      refine own_base2 (T1.out.vs.kept (grown_set wr w.heap.size 0 _) ?_) (by omega)
      cases hs : (Value.slice x n c).ownBlock with
      | none => exact .inl rfl
      | some k => exact .inr (fun e => by cases e; have := (T1.out.vs.lt _ hs).1; omega)
end Go.Proofs.YtcoofnhdbejnpaaGreatDoor

/- Package tables: After. -/
namespace Go.Proofs.YtcoofnhdbejnpaaGreatDoor
open Go.RowKit
/-- the table behind a batch, or why it may not be -/
def AfterPost (w : World) (t bt : List Pv.Chg) (e : Ending) (w' : World) : Prop :=
  Below w.heap.size w w' ∧
  (((Pv.refusedF t bt).1 ≠ 0 ∧ e = .returned (.tuple #[.agg #[.slice none 0 0], .int .i64 (Pv.refusedF t bt).1, .int .i64 ((Pv.refusedF t bt).2 : Nat)])) ∨
   ((Pv.refusedF t bt).1 = 0 ∧ ∃ x n c, e = .returned (.tuple #[.agg #[.slice x n c], .int .i64 0, .int .i64 0]) ∧ w'.ownsRow w.heap.size 50 4 (.slice x n c) (Pv.tableF t bt).length (rchgs (Pv.tableF t bt))))
theorem scan_ne {l : List Pv.Chg} {i : Nat} {x : Int × Nat} (h : Pv.scanF i l = some x) : x.1 ≠ 0 := by
  induction l generalizing i with
  | nil => simp [Pv.scanF] at h
  | cons c l ih =>
    rw [Pv.scanF] at h
    split at h
    · cases h; simp
    · split at h
      · cases h; simp
      · exact ih h
theorem chkB_ne {t bt : List Pv.Chg} (h : (Pv.chkB bt).1 ≠ 0) : Pv.refusedF t bt = Pv.chkB bt := by
  unfold Pv.chkB at h ⊢
  by_cases hl : 50 < bt.length
  · rw [Pv.refused_long hl, if_pos hl]
  · rw [if_neg hl] at h ⊢
    cases hs : Pv.scanF 0 bt with
    | none => rw [hs] at h; simp at h
    | some x => rw [Pv.refused_scan hl hs]
theorem chkB_ok {bt : List Pv.Chg} (h : (Pv.chkB bt).1 = 0) : ¬ 50 < bt.length ∧ Pv.scanF 0 bt = none := by
  unfold Pv.chkB at h
  by_cases hl : 50 < bt.length
  · rw [if_pos hl] at h; simp at h
  · rw [if_neg hl] at h
    refine ⟨hl, ?_⟩
    cases hs : Pv.scanF 0 bt with
    | none => rfl
    | some x => rw [hs] at h; exact absurd h (scan_ne hs)
theorem sums_le {t : List Pv.Chg} (bt : List Pv.Chg) (k : Nat) (h : k < bt.length) : (Pv.tableF t bt).any (fun d => decide (d.1 = bt[k].1) && decide (d.2 < 0)) = decide (Pv.sumOf (Pv.sumsF (t ++ bt)) bt[k].1 < 0) := by
  rw [Pv.less_any, Pv.sumsF_sum, Pv.sumOf_app]
set_option maxRecDepth 100000 in
set_option maxHeartbeats 4000000 in
theorem after_any {w : World} {vt vb : Value} {t bt : List Pv.Chg} (ht : RdC w vt t) (hb : RdC w vb bt) (hti : Pv.TInv t) (hbl : bt.length ≤ 4000000000000000000) :
    Calls Tryz.prog 47 #[.agg #[vt], vb] w fun e w' => AfterPost w t bt e w' := by
  have HT := hide ht
  have HBT := hide hb
  have HTI := hide hti
  obtain ⟨xt, nt, ct, rfl⟩ : ∃ a n c, vt = .slice a n c := by
    rcases ht.form with ⟨h, _⟩ | ⟨g, off, cap, h, _⟩
    · exact ⟨_, _, _, h⟩
    · exact ⟨_, _, _, h⟩
  obtain ⟨xb, nb, cb, rfl⟩ : ∃ a n c, vb = .slice a n c := by
    rcases hb.form with ⟨h, _⟩ | ⟨g, off, cap, h, _⟩
    · exact ⟨_, _, _, h⟩
    · exact ⟨_, _, _, h⟩
  obtain rfl := ht.len
  obtain rfl := hb.len
  clear ht hb hti
  go_enter Tryz.func47, Tryz.ntmps47
  go_upto_region 1 with fail
  have C0 := hide (K2.start w #[.slice xt t.length ct] 106 #[.slice none 0 0] 106)
  generalize ((w.alloc (.cells #[.slice xt t.length ct] 106)).alloc (.cells #[.slice none 0 0] 106)) = w0 at *
  go_wp2_with fail
  refine (checkBatch_any (HBT.out.below C0.out.bl) hbl).mono ?_
  rintro e w1 ⟨rfl, e1⟩
  have C1 := hide (C0.out.below e1)
  have B1 := hide e1
  clear e1
  have HRES : Hid (∀ W, Below w0.heap.size w0 W → Blk W (w.heap.size + 1) #[.slice none 0 0] 106 ∧ Below w.heap.size w W) := fun W h => ⟨(C0.out.below h).b, (C0.out.below h).bl⟩
  by_cases hc : (Pv.chkB bt).1 = 0
  · obtain ⟨hl50, hsc⟩ := chkB_ok hc
    have HSC := hide hsc
    have hsb := Pv.scan_none bt 0 hsc
    have HBB : Hid (∀ c ∈ bt, -40 ≤ c.2 ∧ c.2 ≤ 40) := fun c hc => Pv.cnt_bd (hsb c hc).2
    have HTB : Hid (∀ c ∈ t, -40 ≤ c.2 ∧ c.2 ≤ 40) := fun c hc => by have := HTI.out.bd c hc; omega
    have htl := HTI.out.len
    rw [hc]
    clear hsc hsb hc
    generalize ((Pv.chkB bt).2 : Int) = cc at *
    have a0 : w1.cell? ⟨w.heap.size, 0, none⟩ = some (.slice xt t.length ct) := cell_of_heap C1.out.a 0
    go_upto_region 4 with fail
    go_wp2_with fail
    refine (sumsWith_any (HT.out.below C1.out.bl) (HBT.out.below C1.out.bl) (by omega) (by omega) HTB.out HBB.out).mono ?_
    rintro e w2 ⟨e2, v2, rfl, own2⟩
    obtain ⟨x2, n2, c2, rfl⟩ := own_sl own2
    have B2 := hide (B1.out.trans (e2.mono B1.out.size))
    have O2 := hide own2
    clear a0 e2 own2
    have hsl : (Pv.sumsF (t ++ bt)).length ≤ 200 := by
      have := Pv.sumsF_len (t ++ bt)
      rw [List.length_append] at this; omega
    have HSR := hide (Pv.sumsF_srt (t ++ bt))
    have HLS : Hid (∀ k (h : k < bt.length), (Pv.tableF t bt).any (fun d => decide (d.1 = bt[k].1) && decide (d.2 < 0)) = decide (Pv.sumOf (Pv.sumsF (t ++ bt)) bt[k].1 < 0)) := fun k h => sums_le bt k h
    have HSB : Hid (∀ r, -8000 ≤ Pv.sumOf (Pv.sumsF (t ++ bt)) r ∧ Pv.sumOf (Pv.sumsF (t ++ bt)) r ≤ 8000) := fun r => by
      rw [Pv.sumsF_sum]
      have := Pv.sumOf_bd (l := t ++ bt) (b := 40) (fun c hc => by
        rcases List.mem_append.1 hc with h | h
        · exact HTB.out c h
        · exact HBB.out c h) (by omega) r
      rw [List.length_append] at this
      omega
    have HTO := hide (Pv.sums_total t bt)
    have HPO : Hid (Pv.lessF (Pv.tableF t bt) 0 bt = none → (Pv.sumsF (t ++ bt)).filter posC = Pv.tableF t bt) := fun h => Pv.sums_pos ⟨HTI.out.tab, fun c hc => by have := HTI.out.pos c hc; omega⟩ h
    generalize Pv.sumsF (t ++ bt) = ss at *
    go_upto_region 5 with fail
    have D3 := hide (heap_alloc_new w2 (.cells #[.slice x2 n2 c2] 146))
    have B3 := hide (B2.out.alloc B2.out.size (.cells #[.slice x2 n2 c2] 146))
    have R3 := hide ((RdC.ofOwn O2.out).below ((Below.refl w2.heap.size w2).alloc (Nat.le_refl _) (.cells #[.slice x2 n2 c2] 146)))
    have hs3 : w2.heap.size < (w2.alloc (.cells #[.slice x2 n2 c2] 146)).heap.size := by simp
    generalize w2.alloc (.cells #[.slice x2 n2 c2] 146) = w3 at *
    generalize w2.heap.size = b3 at *
    have HW3 : Hid (∀ W, Below w3.heap.size w3 W → W.heap[b3]? = some (.cells #[.slice x2 n2 c2] 146 (0, 0)) ∧ RdC W (.slice x2 n2 c2) ss ∧ Blk W (w.heap.size + 1) #[.slice none 0 0] 106 ∧ Below w.heap.size w W) := fun W h => by
      obtain ⟨h1, h2⟩ := HRES.out W (B3.out.trans (h.mono B3.out.size))
      exact ⟨(h.block _ hs3).trans D3.out, R3.out.below h, h1, h2⟩
    go_wp2_with fail
    go_loopw [10] (fun r wr => ∃ k : Nat, k ≤ bt.length ∧ r = .int .i64 k ∧ Below w3.heap.size w3 wr ∧ Hid (Pv.lessF (Pv.tableF t bt) k (bt.drop k) = Pv.lessF (Pv.tableF t bt) 0 bt)) (fun r _ => bt.length - (intOf r).toNat)
    case atStart => exact ⟨0, by omega, rfl, Below.refl _ _, rfl⟩
    case round =>
      obtain ⟨k, hk, rfl, hbe, HN⟩ := hrel
      have B4 := hide hbe
      clear hbe
      obtain ⟨h1, h2, h3, h4⟩ := HW3.out _ B4.out
      have HB4 := hide h1
      have R4 := hide h2
      have S4 := hide h3
      have W4 := hide h4
      clear h1 h2 h3 h4
      by_cases hlt : k < bt.length
      · have hlt' : (k : Int) < (bt.length : Int) := by omega
        obtain ⟨g, off, cap, e, hcap⟩ := HBT.out.form1 (by omega)
        cases e
        obtain ⟨c0, c1, c2', c3⟩ := (HBT.out.below W4.out).cell k hlt
        have HLD := hide (Pv.less_drop (Pv.tableF t bt) bt k hlt)
        rw [HLS.out k hlt] at HLD
        obtain ⟨s1, s2⟩ := HSB.out bt[k].1
        go_wp2_with fail
        refine (tof_any HB4.out R4.out (by omega) HSR.out bt[k].1.1 bt[k].1.2.1 bt[k].1.2.2).mono ?_
        rintro e w5 ⟨rfl, e5⟩
        have B5 := hide (B4.out.trans (e5.mono B4.out.size))
        obtain ⟨h1, h2, h3, h4⟩ := HW3.out _ B5.out
        have S5 := hide h3
        have W5 := hide h4
        clear h1 h2 h3 h4 e5 c0 c1 c2' c3
        have HEQ : Hid (Pv.sumOf ss bt[k].1 = Pv.sumOf ss (bt[k].1.1, bt[k].1.2.1, bt[k].1.2.2)) := rfl
        rw [HEQ.out] at HLD s1 s2
        generalize Pv.sumOf ss (bt[k].1.1, bt[k].1.2.1, bt[k].1.2.2) = sv at *
        by_cases hng : sv < 0
        · rw [if_pos (by simp [hng])] at HLD
          have HRF : Hid (Pv.refusedF t bt = (9, k)) := Pv.refused_less hl50 HSC.out (HN.out.symm.trans HLD.out)
          have r0 : w5.cell? ⟨w.heap.size + 1, 0, none⟩ = some (.slice none 0 0) := S5.out.cell 0
          have f0 := free_of_heap S5.out 0
          have l0 := (setB1 S5.out (.slice none 0 0)).cell 0
          go_wp2
          refine bodyPost_ret (v := .tuple #[.agg #[.slice none 0 0], .int .i64 9, .int .i64 (k : Int)]) (by simp [results, Tryz.results47, go_sem, l0]) rfl ⟨W5.out.setCell (p := ⟨w.heap.size + 1, 0, none⟩) (by simp) _, .inl ?_⟩
          rw [HRF.out]
          exact ⟨by simp, rfl⟩
        · rw [if_neg (by simp [hng])] at HLD
          go_wp2
          go_roundw
          case rel => exact ⟨k + 1, by omega, by go_num, B5.out, HLD.out.symm.trans HN.out⟩
          case measure => simp [intOf]; omega
      · have hlt' : ¬ (k : Int) < (bt.length : Int) := by omega
        have hln : Pv.lessF (Pv.tableF t bt) 0 bt = none := by
          rw [← HN.out, List.drop_eq_nil_of_le (by omega)]; rfl
        have HRE := hide (Pv.refused_end hl50 HSC.out hln)
        have HPT := hide (HPO.out hln)
        clear hln
        go_wp2_with fail
        refine (ttotal_any HB4.out R4.out (by omega) (fun c hc => by
          obtain ⟨j, hj, rfl⟩ := List.getElem_of_mem hc
          have h1 := Pv.srt_sum HSR.out j hj
          have h2 := HSB.out ss[j].1
          omega)).mono ?_
        rintro e w5 ⟨rfl, hw5⟩
        obtain rfl := hw5.symm
        rw [HTO.out]
        generalize Pv.totalF (Pv.tableF t bt) = tot at *
        by_cases h40 : 40 < tot
        · rw [if_pos h40] at HRE
          have r0 : wr.cell? ⟨w.heap.size + 1, 0, none⟩ = some (.slice none 0 0) := S4.out.cell 0
          have f0 := free_of_heap S4.out 0
          have l0 := (setB1 S4.out (.slice none 0 0)).cell 0
          go_wp2
          refine bodyPost_ret (v := .tuple #[.agg #[.slice none 0 0], .int .i64 10, .int .i64 0]) (by simp [results, Tryz.results47, go_sem, l0]) rfl ⟨W4.out.setCell (p := ⟨w.heap.size + 1, 0, none⟩) (by simp) _, .inl ?_⟩
          rw [HRE.out]
          exact ⟨by simp, rfl⟩
        · rw [if_neg h40] at HRE
          go_wp2_with fail
          refine (ttable_any HB4.out R4.out (by omega)).mono ?_
          rintro e w6 ⟨e6, x6, n6, c6, rfl, own6⟩
          rw [HPT.out] at own6
          have S6 := hide (S4.out.below e6)
          have W6 := hide (W4.out.trans (e6.mono W4.out.size))
          have O6 := hide own6
          have hw6 := W4.out.size
          have hw7 : w.heap.size + 1 < wr.heap.size := (Array.getElem?_eq_some_iff.1 S4.out).1
          have r0 : w6.cell? ⟨w.heap.size + 1, 0, none⟩ = some (.slice none 0 0) := S6.out.cell 0
          have f0 := free_of_heap S6.out 0
          have l0 := (setB1 S6.out (.slice x6 n6 c6)).cell 0
          clear e6 own6
          go_wp2
          refine bodyPost_ret (v := .tuple #[.agg #[.slice x6 n6 c6], .int .i64 0, .int .i64 0]) (by simp [results, Tryz.results47, go_sem, l0]) rfl ⟨W6.out.setCell (p := ⟨w.heap.size + 1, 0, none⟩) (by simp) _, .inr ?_⟩
          rw [HRE.out]
          refine ⟨rfl, x6, n6, c6, rfl, own_base2 (O6.out.kept (grown_set w6 (w.heap.size + 1) 0 _) ?_) hw6⟩
          cases hob : (Value.slice x6 n6 c6).ownBlock with
          | none => exact .inl rfl
          | some k2 =>
            right
            intro e
            cases e
            have := (O6.out.lt _ hob).1
            omega
  · have hc' : ((Pv.chkB bt).1 != 0) = true := by simp [hc]
    have HRF := hide (chkB_ne (t := t) hc)
    have HC := hide hc
    clear hc
    have S1 : Hid (Blk w1 (w.heap.size + 1) #[.slice none 0 0] 106) := C1.out.b
    have r0 : w1.cell? ⟨w.heap.size + 1, 0, none⟩ = some (.slice none 0 0) := S1.out.cell 0
    have f0 := free_of_heap S1.out 0
    have l0 := (setB1 S1.out (.slice none 0 0)).cell 0
    go_wp2
    refine bodyPost_ret (v := .tuple #[.agg #[.slice none 0 0], .int .i64 (Pv.chkB bt).1, .int .i64 ((Pv.chkB bt).2 : Nat)]) (by simp [results, Tryz.results47, go_sem, l0]) rfl ⟨C1.out.bl.setCell (p := ⟨w.heap.size + 1, 0, none⟩) (by simp) _, .inl ?_⟩
    rw [HRF.out]
    exact ⟨HC.out, rfl⟩
end Go.Proofs.YtcoofnhdbejnpaaGreatDoor

