/- Package paneskeep: index. -/
import Derived.Test.YtcoofnhdbejnpaaGreatDoorG32
import Derived.Test.YtcoofnhdbejnpaaGreatDoorG34
namespace Go.Proofs.YtcoofnhdbejnpaaGreatDoor
open Go.RowKit
def rints (cs : List Pv.Chg) : List Value := cs.map (fun c => Value.int .i64 c.2)
theorem rints_snoc (cs : List Pv.Chg) (c : Pv.Chg) : rints (cs ++ [c]) = rints cs ++ [.int .i64 c.2] := by simp [rints]
theorem rints_get (cs : List Pv.Chg) (j : Nat) (h : j < cs.length) : (rints cs)[j]? = some (.int .i64 cs[j].2) := by
  unfold rints
  rw [List.getElem?_map, List.getElem?_eq_getElem h]; rfl
def crows (cs : List Pv.Chg) : List Value := rrows (cs.map (·.1))
theorem crows_snoc (cs : List Pv.Chg) (c : Pv.Chg) : crows (cs ++ [c]) = crows cs ++ rrow c.1 := by unfold crows; rw [List.map_append]; exact rrows_snoc _ _
/-- the counts in memory -/
structure CM (w : World) (bc B : Nat) (vr vn : Value) (cs : List Pv.Chg) (all : Int) : Prop where
  blk : w.heap[bc]? = some (.cells #[vr, vn, .int .i64 all] 66 (0, 0))
  rr : w.ownsRow B 48 3 vr cs.length (crows cs)
  rn : w.ownsRow B 3 1 vn cs.length (rints cs)
theorem CM.below {w w' : World} {bc B : Nat} {vr vn : Value} {cs : List Pv.Chg} {all : Int} (h : CM w bc B vr vn cs all) (hb : Below w.heap.size w w') : CM w' bc B vr vn cs all :=
  ⟨(hb.block bc (Array.getElem?_eq_some_iff.1 h.blk).1).trans h.blk, own_below h.rr hb, own_below h.rn hb⟩
theorem CM.lt {w : World} {bc B : Nat} {vr vn : Value} {cs : List Pv.Chg} {all : Int} (h : CM w bc B vr vn cs all) : bc < w.heap.size := (Array.getElem?_eq_some_iff.1 h.blk).1
/-- the three blocks of the counts -/
def CS (bc : Nat) (vr vn : Value) (k : Nat) : Prop := k = bc ∨ vr.ownBlock = some k ∨ vn.ownBlock = some k
theorem CM.but {w w' : World} {S : Nat → Prop} {bc B : Nat} {vr vn : Value} {cs : List Pv.Chg} {all : Int} (h : CM w bc B vr vn cs all) (hb : But S w w') (hn : ∀ k, CS bc vr vn k → ¬ S k) : CM w' bc B vr vn cs all :=
  ⟨(hb.block bc h.lt (hn bc (.inl rfl))).trans h.blk, own_but h.rr hb (fun g hg => hn g (.inr (.inl hg))), own_but h.rn hb (fun g hg => hn g (.inr (.inr hg)))⟩
/-- which kind each of them is -/
theorem CM.kind {w : World} {bc B : Nat} {vr vn : Value} {cs : List Pv.Chg} {all : Int} (h : CM w bc B vr vn cs all) : ∀ k, CS bc vr vn k → k < w.heap.size ∧ ∃ cur T fz, w.heap[k]? = some (.cells cur T fz) ∧ (T = 66 ∨ T = 48 ∨ T = 3) := fun k hk => by
  rcases hk with rfl | hk | hk
  · exact ⟨h.lt, _, _, _, h.blk, .inl rfl⟩
  · obtain ⟨cur, fz, e⟩ := own_type h.rr hk
    exact ⟨(h.rr.lt k hk).2, cur, _, fz, e, .inr (.inl rfl)⟩
  · obtain ⟨cur, fz, e⟩ := own_type h.rn hk
    exact ⟨(h.rn.lt k hk).2, cur, _, fz, e, .inr (.inr rfl)⟩
theorem CM.ne {w : World} {bc B : Nat} {vr vn : Value} {cs : List Pv.Chg} {all : Int} (h : CM w bc B vr vn cs all) : (∀ k, vr.ownBlock = some k → k ≠ bc ∧ vn.ownBlock ≠ some k) ∧ (∀ k, vn.ownBlock = some k → k ≠ bc) := by
  refine ⟨fun k hk => ⟨fun e => ?_, fun e => ?_⟩, fun k hk e => ?_⟩
  · subst e; obtain ⟨c, f, q⟩ := own_type h.rr hk; rw [h.blk] at q; cases q
  · obtain ⟨c, f, q⟩ := own_type h.rr hk; obtain ⟨c2, f2, q2⟩ := own_type h.rn e; rw [q] at q2; cases q2
  · subst e; obtain ⟨c, f, q⟩ := own_type h.rn hk; rw [h.blk] at q; cases q
theorem infoInt : (Tryz.prog.info? 3).map (fun i => (i.zero, i.size, i.bytes)) = some (some (.int .i64 0), 1, 8) := by kernel_rfl
/-- behind the append of the row -/
structure RW (w wy : World) (bc B g6 cap6 : Nat) (vr vn : Value) (cs : List Pv.Chg) (all : Int) (r : Pv.R3) : Prop where
  blk : wy.heap[bc]? = some (.cells #[.slice (some ⟨g6, 0, none⟩) (cs.length + 1) cap6, vn, .int .i64 all] 66 (0, 0))
  rr : wy.ownsRow B 48 3 (.slice (some ⟨g6, 0, none⟩) (cs.length + 1) cap6) (cs.length + 1) (crows (cs ++ [(r, 0)]))
  rn : wy.ownsRow B 3 1 vn cs.length (rints cs)
  but : But (CS bc vr vn) w wy
  n1 : vr.ownBlock = some g6 ∨ w.heap.size ≤ g6
theorem set30 {W : World} {b : Nat} {v0 v1 v2 : Value} {T : Nat} (h : W.heap[b]? = some (.cells #[v0, v1, v2] T (0, 0))) (y : Value) : (W.setCell ⟨b, 0, none⟩ y).heap[b]? = some (.cells #[y, v1, v2] T (0, 0)) := by
  simp [World.setCell, Array.getElem?_modify, h]
theorem set31 {W : World} {b : Nat} {v0 v1 v2 : Value} {T : Nat} (h : W.heap[b]? = some (.cells #[v0, v1, v2] T (0, 0))) (y : Value) : (W.setCell ⟨b, 1, none⟩ y).heap[b]? = some (.cells #[v0, y, v2] T (0, 0)) := by
  simp [World.setCell, Array.getElem?_modify, h]
theorem set32 {W : World} {b : Nat} {v0 v1 v2 : Value} {T : Nat} (h : W.heap[b]? = some (.cells #[v0, v1, v2] T (0, 0))) (y : Value) : (W.setCell ⟨b, 2, none⟩ y).heap[b]? = some (.cells #[v0, v1, y] T (0, 0)) := by
  simp [World.setCell, Array.getElem?_modify, h]
theorem RW.push {w w2 W w6 : World} {bc B g6 cap6 H : Nat} {vr vn : Value} {cs : List Pv.Chg} {all : Int} {r : Pv.R3} (hc : CM w2 bc B vr vn cs all) (hbw : But (CS bc vr vn) w w2) (hW : Below w2.heap.size w2 W) (hg : W.grownBy w6 vr.ownBlock) (hat : vr.ownBlock = some g6 ∨ g6 = H) (hH : w2.heap.size ≤ H) (hown : w6.ownsRow B 48 3 (.slice (some ⟨g6, 0, none⟩) (cs.length + 1) cap6) (cs.length + 1) (crows cs ++ rrow r)) :
    w6.heap[bc]? = some (.cells #[vr, vn, .int .i64 all] 66 (0, 0)) ∧ RW w (w6.setCell ⟨bc, 0, none⟩ (.slice (some ⟨g6, 0, none⟩) (cs.length + 1) cap6)) bc B g6 cap6 vr vn cs all r := by
  have hne := hc.ne
  have hb6 : w6.heap[bc]? = some (.cells #[vr, vn, .int .i64 all] 66 (0, 0)) := by
    rw [hg.block bc (Nat.lt_of_lt_of_le hc.lt hW.size) (fun e => (hne.1 bc e.symm).1 rfl), hW.block bc hc.lt]
    exact hc.blk
  have n2 : g6 ≠ bc := by
    rcases hat with h | h
    · exact (hne.1 g6 h).1
    · have := hc.lt; omega
  refine ⟨hb6, ⟨set30 hb6 _, ?_, ?_, ?_, ?_⟩⟩
  · rw [crows_snoc]
    exact hown.kept (grown_set w6 bc 0 _) (.inr (fun e => n2 (by cases e; rfl)))
  · have h1 : W.ownsRow B 3 1 vn cs.length (rints cs) := own_below hc.rn hW
    have h2 : w6.ownsRow B 3 1 vn cs.length (rints cs) := h1.kept hg (by
      cases hs : vn.ownBlock with
      | none => exact .inl rfl
      | some k => exact .inr (fun e => (hne.1 k e.symm).2 hs))
    refine h2.kept (grown_set w6 bc 0 _) ?_
    cases hs : vn.ownBlock with
    | none => exact .inl rfl
    | some k => exact .inr (fun e => by cases e; exact hne.2 _ hs rfl)
  · have h1 : But (CS bc vr vn) w W := hbw.of hW
    exact (h1.grown hg (fun k hk _ => .inr (.inl hk))).setIn bc 0 _ (fun _ => .inl rfl)
  · rcases hat with h | h
    · exact .inl h
    · exact .inr (by have := hbw.size; omega)
/-- the place of a row, with room for it -/
def IdxPost (w : World) (bc B : Nat) (vr vn : Value) (cs : List Pv.Chg) (all : Int) (r : Pv.R3) (e : Ending) (w' : World) : Prop :=
  e = .returned (.int .i64 ((Pk.idxF r cs : Nat) : Int)) ∧ But (CS bc vr vn) w w' ∧ ∃ x n c x2 n2 c2, CM w' bc B (.slice x n c) (.slice x2 n2 c2) (Pk.roomC r cs) all ∧ (∀ k, (Value.slice x n c).ownBlock = some k → vr.ownBlock = some k ∨ w.heap.size ≤ k) ∧ (∀ k, (Value.slice x2 n2 c2).ownBlock = some k → vn.ownBlock = some k ∨ w.heap.size ≤ k)
theorem ownS {w : World} {B e size n : Nat} {v : Value} {xs : List Value} (h : w.ownsRow B e size v n xs) : ∃ x c, v = .slice x n c := by
  rcases own_form h with ⟨h, h2⟩ | ⟨g, c, h⟩
  · exact ⟨none, 0, by rw [h, h2]⟩
  · exact ⟨_, c, h⟩
set_option maxRecDepth 100000 in
set_option maxHeartbeats 4000000 in
theorem index_any {w : World} {bc B : Nat} {vr vn : Value} {cs : List Pv.Chg} {all : Int} (h : CM w bc B vr vn cs all) (hB : B ≤ w.heap.size) (hl : cs.length ≤ 100000) (p u q : Int) :
    Calls Tryz.prog 58 #[.pointer (some ⟨bc, 0, none⟩), .agg #[.int .i64 p, .int .i64 u, .int .i64 q]] w fun e w' => IdxPost w bc B vr vn cs all (p, u, q) e w' := by
  obtain ⟨i0, hi, hz0, hz1, hz2⟩ := info_parts infoRow
  obtain ⟨j0, hj, hy0, hy1, hy2⟩ := info_parts infoInt
  have HC := hide h
  obtain ⟨xr, cr, rfl⟩ := ownS h.rr
  obtain ⟨xn, cn, rfl⟩ := ownS h.rn
  clear h
  go_enter Tryz.func58, Tryz.ntmps58
  go_upto_region 1 with fail
  have C0 := hide (K1.start w #[.int .i64 p, .int .i64 u, .int .i64 q] 48)
  generalize w.alloc (.cells #[.int .i64 p, .int .i64 u, .int .i64 q] 48) = w0 at *
  have hs0 := C0.out.size
  have HX : ∀ wx, Hid (Below w0.heap.size w0 wx → Below w.heap.size w wx ∧ CM wx bc B (.slice xr cs.length cr) (.slice xn cs.length cn) cs all ∧ wx.cell? ⟨bc, 0, none⟩ = some (.slice xr cs.length cr) ∧ wx.cell? ⟨w.heap.size, 0, none⟩ = some (.int .i64 p) ∧ wx.cell? ⟨w.heap.size, 1, none⟩ = some (.int .i64 u) ∧ wx.cell? ⟨w.heap.size, 2, none⟩ = some (.int .i64 q)) := fun wx hb => by
    have C1 := C0.out.below hb
    have hc1 := HC.out.below C1.bl
    exact ⟨C1.bl, hc1, cell_of_heap hc1.blk 0, cell_of_heap C1.a 0, cell_of_heap C1.a 1, cell_of_heap C1.a 2⟩
  go_wp2
  go_loopw [5] (fun i wr => ∃ k : Nat, k ≤ cs.length ∧ i = .int .i64 k ∧ Below w0.heap.size w0 wr ∧ Hid (∀ j (hj : j < cs.length), j < k → cs[j].1 ≠ (p, u, q))) (fun i _ => cs.length - (intOf i).toNat)
  case atStart => exact ⟨0, by omega, rfl, Below.refl _ _, fun j hj h => by omega⟩
  case round =>
    obtain ⟨k, hk, rfl, hb, HN⟩ := hrel
    have B1 := hide hb
    clear hb
    obtain ⟨bw, hc1, q0, r0, r1, r2⟩ := (HX _).out B1.out
    have BW := hide bw
    have C1 := hide hc1
    clear bw hc1
    by_cases hlt : k < cs.length
    · have hlt' : (k : Int) < (cs.length : Int) := by omega
      have hkm : k < (cs.map (·.1)).length := by simpa using hlt
      have RR := hide (RdR.ofOwn (l := cs.map (·.1)) C1.out.rr)
      obtain ⟨g, off, c, e, _⟩ := RdG.form1 RR.out (by simp; omega)
      rw [List.length_map] at e
      cases e
      obtain ⟨c0, c1, c2⟩ := RR.out.cell k hkm
      simp only [List.getElem_map] at c0 c1 c2
      by_cases he : cs[k].1 = (p, u, q)
      · have HI : Hid (Pk.idxF (p, u, q) cs = k) := Pk.idxF_is (p, u, q) cs k (by omega) (fun j hj h => HN.out j hj h) (fun _ => he)
        have HRC : Hid (Pk.roomC (p, u, q) cs = cs) := by show _ = _; unfold Pk.roomC; rw [HI.out, if_pos hlt]
        have h1 : cs[k].1.1 = p := by rw [he]
        have h2 : cs[k].1.2.1 = u := by rw [he]
        have h3 : cs[k].1.2.2 = q := by rw [he]
        rw [h1] at c0
        rw [h2] at c1
        rw [h3] at c2
        clear he h1 h2 h3
        go_wp2
        go_quiet (fail)
        go_wp2
        go_ret
        refine ⟨by rw [HI.out]; rfl, But.ofB (below_drewM BW.out _), _, _, _, _, _, _, by rw [HRC.out]; exact ⟨C1.out.blk, C1.out.rr, C1.out.rn⟩, fun k hk => .inl hk, fun k hk => .inl hk⟩
      · have hne : ¬ (cs[k].1.1 = p ∧ cs[k].1.2.1 = u ∧ cs[k].1.2.2 = q) := fun ⟨h1, h2, h3⟩ => he (Prod.ext h1 (Prod.ext h2 h3))
        have HE := hide he
        clear he
        generalize cs[k].1.1 = p1 at *
        generalize cs[k].1.2.1 = u1 at *
        generalize cs[k].1.2.2 = q1 at *
        have hc : (p1 == p) = false ∨ ((p1 == p) = true ∧ (u1 == u) = false) ∨ ((p1 == p) = true ∧ (u1 == u) = true ∧ (q1 == q) = false) := by
          by_cases h1 : p1 = p
          · by_cases h2 : u1 = u
            · have h3 : ¬ q1 = q := fun h3 => hne ⟨h1, h2, h3⟩
              exact .inr (.inr ⟨by simp [h1], by simp [h2], by simp [h3]⟩)
            · exact .inr (.inl ⟨by simp [h1], by simp [h2]⟩)
          · exact .inl (by simp [h1])
        clear hne
        rcases hc with h1 | ⟨h1, h2⟩ | ⟨h1, h2, h3⟩
        all_goals
          go_wp2
          go_quiet (fail)
          go_wp2
          go_roundw
          case rel =>
            refine ⟨k + 1, by omega, by go_num, below_drewM B1.out _, fun j hj h => ?_⟩
            rcases Nat.lt_or_ge j k with h1 | h1
            · exact HN.out j hj h1
            · obtain rfl : j = k := by omega
              exact HE.out
          case measure => simp [intOf]; omega
    · have hlt' : ¬ (k : Int) < (cs.length : Int) := by omega
      obtain rfl : k = cs.length := by omega
      have HI : Hid (Pk.idxF (p, u, q) cs = cs.length) := Pk.idxF_is (p, u, q) cs cs.length (Nat.le_refl _) (fun j hj h => HN.out j hj h) (fun h => by omega)
      have HRC : Hid (Pk.roomC (p, u, q) cs = cs ++ [((p, u, q), 0)]) := by show _ = _; unfold Pk.roomC; rw [HI.out, if_neg (by omega)]
      have hsz := BW.out.size
      have hbl := HC.out.lt
      have qa : (wr.alloc (.cells #[.int .i64 p, .int .i64 u, .int .i64 q] 48)).cell? ⟨bc, 0, none⟩ = some (.slice xr cs.length cr) := by
        rw [((Below.refl wr.heap.size wr).alloc (Nat.le_refl _) _).cell (p := ⟨bc, 0, none⟩) (by show bc < wr.heap.size; omega)]
        exact q0
      go_upto_region 6 with fail
      go_cut [62] from 53 to 77 (fun q62 wy => ∃ g6 cap6, RW w wy bc B g6 cap6 (.slice xr cs.length cr) (.slice xn cs.length cn) cs all (p, u, q))
      case first =>
        go_region_law (refine step_append_lies _ rfl (.tmp 57) (.tmp 59) 64 rfl B 48 i0 _ 3 24 Tryz.underlying64 hi hz0 hz1 hz2 rfl (by decide) _ cs.length (crows cs) rfl (C1.out.rr.alloc _).drew _ 1 1 (rrow (p, u, q)) rfl rfl (World.news_of_block (heap_alloc_new _ _)) (rrow_one (p, u, q)) (by decide) (by unfold maxLen; omega) (by omega) (by simp; omega) _ rfl ?_; intro g6 cap6 w6 hown6 hgrow6 hat6 hlt6; obtain ⟨hb6, PW6⟩ := RW.push (r := (p, u, q)) C1.out (But.ofB BW.out) (below_dB ((Below.refl _ _).alloc (Nat.le_refl _) _)) hgrow6 hat6 (by simp) hown6; have y0 : w6.cell? ⟨bc, 0, none⟩ = some (.slice xr cs.length cr) := cell_of_heap hb6 0; have z0 := free_of_heap hb6 0; have HPW := hide PW6; clear hb6 PW6 hown6 hgrow6 hat6 hlt6)
        all_goals
          go_wp2
          go_meet
          case rel => exact ⟨_, _, HPW.out⟩
      case rest =>
        obtain ⟨g6, cap6, hpw⟩ := hcut
        have P6 := hide hpw
        clear hpw q0 r0 r1 r2 qa
        have d1 : wc.cell? ⟨bc, 1, none⟩ = some (.slice xn cs.length cn) := cell_of_heap P6.out.blk 1
        have hs6 := P6.out.but.size
        have hblc : bc < wc.heap.size := (Array.getElem?_eq_some_iff.1 P6.out.blk).1
        have HNE := hide HC.out.ne
        have hwr : IntKind.i64.wrap (cs.length : Int) = (cs.length : Int) := wrap_id2 (by omega) (by omega)
        go_wp2_with (at_builtin; refine wpList_append_own_at _ rfl (.tmp 67) (.tmp 68) 25 rfl B 3 j0 _ 1 8 Tryz.underlying25 hj hy0 hy1 hy2 rfl (by decide) _ cs.length (rints cs) rfl (P6.out.rn.alloc _) _ 1 1 [.int .i64 0] rfl rfl (World.news_of_block (heap_alloc_new _ _)) (by intro u hu; simp at hu; rcases hu with rfl; rfl) (by unfold maxLen; omega) (by omega) (by simp; omega) ?_; intro v8 w8 hown8 hgrow8 hnil8 hat8; obtain ⟨x8, c8, rfl⟩ := ownS hown8; have hb8 : w8.heap[bc]? = some (.cells #[.slice (some ⟨g6, 0, none⟩) (cs.length + 1) cap6, .slice xn cs.length cn, .int .i64 all] 66 (0, 0)) := by {
          rw [hgrow8.block bc (by simp; omega) (fun e => HNE.out.2 bc e.symm rfl), ((Below.refl wc.heap.size wc).alloc (Nat.le_refl _) _).block bc hblc]; exact P6.out.blk }; have y1 : w8.cell? ⟨bc, 1, none⟩ = some (.slice xn cs.length cn) := cell_of_heap hb8 1; have yf := free_of_heap hb8 1; have e0 : (w8.setCell ⟨bc, 1, none⟩ (.slice x8 (cs.length + 1) c8)).cell? ⟨bc, 0, none⟩ = some (.slice (some ⟨g6, 0, none⟩) (cs.length + 1) cap6) := cell_of_heap (set31 hb8 _) 0; have HB8 := hide hb8; have O8 := hide hown8; have G8 := hide hgrow8; have HA8 := hide hat8; clear hown8 hgrow8 hnil8 hat8 hb8)
        have HRR : Hid ((w8.setCell ⟨bc, 1, none⟩ (.slice x8 (cs.length + 1) c8)).ownsRow B 48 3 (.slice (some ⟨g6, 0, none⟩) (cs.length + 1) cap6) (cs.length + 1) (crows (cs ++ [((p, u, q), 0)]))) := by
          refine own_set_far ((P6.out.rr.alloc _).kept G8.out (.inr (fun e => ?_))) (fun k hk e => ?_)
          · obtain ⟨c1, f1, e1⟩ := own_type P6.out.rr (k := g6) rfl
            obtain ⟨c2, f2, e2⟩ := own_type P6.out.rn e.symm
            rw [e1] at e2; cases e2
          · cases hk
            subst e
            obtain ⟨c1, f1, e1⟩ := own_type P6.out.rr (k := g6) rfl
            rw [P6.out.blk] at e1; cases e1
        have HRN : Hid ((w8.setCell ⟨bc, 1, none⟩ (.slice x8 (cs.length + 1) c8)).ownsRow B 3 1 (.slice x8 (cs.length + 1) c8) (cs.length + 1) (rints (cs ++ [((p, u, q), 0)]))) := by
          show World.ownsRow _ _ _ _ _ _ _
          rw [rints_snoc]
          refine own_set_far O8.out (fun k hk e => ?_)
          subst e
          obtain ⟨c1, f1, e1⟩ := own_type O8.out hk
          rw [HB8.out] at e1; cases e1
        have HBU : Hid (But (CS bc (.slice xr cs.length cr) (.slice xn cs.length cn)) w (w8.setCell ⟨bc, 1, none⟩ (.slice x8 (cs.length + 1) c8))) := ((P6.out.but.of ((Below.refl _ _).alloc (Nat.le_refl _) _)).grown G8.out (fun k hk _ => .inr (.inr hk))).setIn bc 1 _ (fun _ => .inl rfl)
        have HB9 := hide (set31 HB8.out (.slice x8 (cs.length + 1) c8))
        have HNW : Hid (∀ k, (Value.slice x8 (cs.length + 1) c8).ownBlock = some k → (Value.slice xn cs.length cn).ownBlock = some k ∨ w.heap.size ≤ k) := fun k hk => by
          rcases HA8.out with e | e
          · exact .inl (e.symm.trans hk)
          · rw [hk] at e
            cases e
            exact .inr (by simp; omega)
        go_ret
        refine ⟨by rw [HI.out]; rfl, HBU.out, _, _, _, _, _, _, ⟨HB9.out, ?_, ?_⟩, fun k hk => ?_, HNW.out⟩
        · rw [HRC.out, List.length_append]; exact HRR.out
        · rw [HRC.out, List.length_append]; exact HRN.out
        · cases hk; exact P6.out.n1
end Go.Proofs.YtcoofnhdbejnpaaGreatDoor

