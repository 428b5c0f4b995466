/- Package lines: insert. -/
import Derived.Test.YtcoofnhdbejnpaaGreatDoorG30
namespace Go.Proofs.YtcoofnhdbejnpaaGreatDoor
open Go.RowKit
/-- a list as it stands while room is made, down to the place i -/
def shiftG {α : Type} (l : List α) (c : α) (i : Nat) : List α := (l ++ [c]).take (i + 1) ++ l.drop i
theorem shiftG_len {α : Type} (l : List α) (c : α) (i : Nat) (h : i ≤ l.length) : (shiftG l c i).length = l.length + 1 := by
  simp [shiftG]; omega
theorem shiftG_top {α : Type} (l : List α) (c : α) : shiftG l c l.length = l ++ [c] := by
  unfold shiftG; rw [List.drop_length, List.append_nil, List.take_of_length_le (by simp)]
theorem shiftG_get {α : Type} (l : List α) (c : α) (i : Nat) (h : i < l.length) : (shiftG l c (i + 1))[i]? = some l[i] := by
  unfold shiftG
  rw [List.getElem?_append_left (by simp; omega), List.getElem?_take_of_lt (by omega), List.getElem?_append_left h, List.getElem?_eq_getElem h]
theorem shiftG_step {α : Type} (l : List α) (c : α) (i : Nat) (h : i < l.length) : (shiftG l c (i + 1)).set (i + 1) l[i] = shiftG l c i := by
  unfold shiftG
  have e1 : (l ++ [c]).take (i + 1 + 1) = (l ++ [c]).take (i + 1) ++ [(l ++ [c])[i + 1]'(by simp; omega)] := List.take_succ_eq_append_getElem (by simp; omega)
  rw [e1, List.append_assoc, List.set_append_right _ _ (by simp; omega)]
  have e2 : i + 1 - ((l ++ [c]).take (i + 1)).length = 0 := by simp; omega
  rw [e2, List.drop_eq_getElem_cons h]
  rfl
theorem shiftG_end {α : Type} (l : List α) (c : α) (i : Nat) (h : i ≤ l.length) : (shiftG l c i).set i c = l.take i ++ c :: l.drop i := by
  unfold shiftG
  have e1 : (l ++ [c]).take (i + 1) = (l ++ [c]).take i ++ [(l ++ [c])[i]'(by simp; omega)] := List.take_succ_eq_append_getElem (by simp; omega)
  rw [e1, List.append_assoc, List.set_append_right _ _ (by simp; omega)]
  have e2 : i - ((l ++ [c]).take i).length = 0 := by simp; omega
  rw [e2, List.take_append_of_le_length h]
  rfl
theorem own_set3G {T : Nat} {w : World} {B g cap n : Nat} {l : List Pv.R3} (h : w.ownsRow B T 3 (.slice (some ⟨g, 0, none⟩) n cap) n (rrows l)) (j : Nat) (hj : j < l.length) (c : Pv.R3) :
    (((w.setCell ⟨g, j * 3, none⟩ (.int .i64 c.1)).setCell ⟨g, j * 3 + 1, none⟩ (.int .i64 c.2.1)).setCell ⟨g, j * 3 + 2, none⟩ (.int .i64 c.2.2)).ownsRow B T 3 (.slice (some ⟨g, 0, none⟩) n cap) n (rrows (l.set j c)) := by
  have hl := h.1
  rw [rrows_len] at hl
  refine ⟨by rw [rrows_len, List.length_set]; exact hl, ?_⟩
  rcases h.2 with ⟨h1, _⟩ | ⟨g', cap', cur, h1, h2, h3, h4, h5, h6, h7⟩
  · cases h1
  · cases h1
    refine .inr ⟨g, cap, ((cur.setIfInBounds (j * 3) (.int .i64 c.1)).setIfInBounds (j * 3 + 1) (.int .i64 c.2.1)).setIfInBounds (j * 3 + 2) (.int .i64 c.2.2), rfl, h2, ?_, h4, h5, by simpa using h6, ?_⟩
    · simp [World.setCell, Array.getElem?_modify, h3]
    · rw [rrows_set l j c hj, ← h7]
      simp only [Array.toList_setIfInBounds]
      rw [List.take_set, List.take_set, List.take_set]
/-- behind the append and the store of the copies -/
structure IW (w wy : World) (g o B g6 cap6 : Nat) (v0 : Value) (cur : Array Value) (L : List Pv.R3) (cs : Array Value) : Prop where
  hb : wy.heap[g]? = some (.cells (cur.setIfInBounds (o + 1) (.slice (some ⟨g6, 0, none⟩) L.length cap6)) 176 (0, 0))
  own : wy.ownsRow B 48 3 (.slice (some ⟨g6, 0, none⟩) L.length cap6) L.length (rrows L)
  box : Blk wy w.heap.size cs 48
  but : But (fun k => k = g ∨ v0.ownBlock = some k) w wy
  n1 : g6 ≠ w.heap.size
  n2 : g6 ≠ g
  n3 : v0.ownBlock = some g6 ∨ w.heap.size ≤ g6
theorem But.setIn {S : Nat → Prop} {w w6 : World} (h : But S w w6) (b j : Nat) (v : Value) (hb : b < w.heap.size → S b) : But S w (w6.setCell ⟨b, j, none⟩ v) :=
  (h.set b j v).weak (fun k hk hs => by
    rcases hs with rfl | hs
    · exact hb hk
    · exact hs)
theorem But.drew {S : Nat → Prop} {w w6 : World} (h : But S w w6) : But S w w6.drew := ⟨h.os, h.tape, h.output, h.size, h.block⟩
theorem But.refl (S : Nat → Prop) (w : World) : But S w w := ⟨rfl, rfl, rfl, Nat.le_refl _, fun _ _ _ => rfl⟩
theorem But.of {S : Nat → Prop} {w w1 w2 : World} (h : But S w w1) (hb : Below w1.heap.size w1 w2) : But S w w2 :=
  ⟨hb.os.trans h.os, hb.tape.trans h.tape, hb.output.trans h.output, Nat.le_trans h.size hb.size, fun k hk hs => by rw [hb.block k (by have := h.size; omega)]; exact h.block k hk hs⟩
theorem But.grown {S : Nat → Prop} {w w1 w2 : World} {row : Option Nat} (h : But S w w1) (hg : w1.grownBy w2 row) (hr : ∀ k, row = some k → k < w.heap.size → S k) : But S w w2 :=
  ⟨hg.os.trans h.os, hg.tape.trans h.tape, hg.output.trans h.output, Nat.le_trans h.size hg.size, fun k hk hs => by rw [hg.block k (by have := h.size; omega) (fun e => hs (hr k e.symm hk))]; exact h.block k hk hs⟩
theorem IW.push {w w2 W w6 : World} {g o B g6 cap6 H : Nat} {v : Value} {cur : Array Value} {l : List Pv.R3} {c : Pv.R3} {cs : Array Value} (hgl : g < w.heap.size) (C2 : K1 w w2 cs 48) (HB2 : w2.heap[g]? = some (.cells cur 176 (0, 0))) (HNE : ∀ k, v.ownBlock = some k → k ≠ g ∧ k < w.heap.size)
    (hW : Below w2.heap.size w2 W) (hg : W.grownBy w6 v.ownBlock) (hat : v.ownBlock = some g6 ∨ g6 = H) (hH : w2.heap.size ≤ H) (hown : w6.ownsRow B 48 3 (.slice (some ⟨g6, 0, none⟩) (l.length + 1) cap6) (l.length + 1) (rrows l ++ rrow c)) :
    w6.heap[g]? = some (.cells cur 176 (0, 0)) ∧ IW w (w6.setCell ⟨g, o + 1, none⟩ (.slice (some ⟨g6, 0, none⟩) (l.length + 1) cap6)) g o B g6 cap6 v cur (l ++ [c]) cs := by
  have hs := C2.size
  have hb6 : w6.heap[g]? = some (.cells cur 176 (0, 0)) := by
    rw [hg.block g (Nat.lt_of_lt_of_le (by omega) hW.size) (fun e => (HNE g e.symm).1 rfl), hW.block g (by omega)]
    exact HB2
  have hx6 : Blk w6 w.heap.size cs 48 := by
    unfold Blk
    rw [hg.block _ (Nat.lt_of_lt_of_le hs hW.size) (fun e => by have := (HNE _ e.symm).2; omega), hW.block _ hs]
    exact C2.a
  have n2 : g6 ≠ g := by
    rcases hat with h | h
    · exact (HNE _ h).1
    · omega
  have n1 : g6 ≠ w.heap.size := by
    rcases hat with h | h
    · have := (HNE _ h).2; omega
    · omega
  have n3 : v.ownBlock = some g6 ∨ w.heap.size ≤ g6 := by
    rcases hat with h | h
    · exact .inl h
    · exact .inr (by omega)
  refine ⟨hb6, ⟨?_, ?_, ?_, ?_, n1, n2, n3⟩⟩
  · simp [World.setCell, Array.getElem?_modify, hb6]
  · rw [rrows_snoc, List.length_append]
    exact hown.kept (grown_set w6 g (o + 1) _) (.inr (fun e => n2 (by cases e; rfl)))
  · unfold Blk
    rw [set_far _ _ _ _ _ (by omega)]
    exact hx6
  · have h1 : But (fun k => k = g ∨ v.ownBlock = some k) w W := ((But.refl _ w).of C2.bl).of hW
    exact (h1.grown hg (fun k hk _ => .inr hk)).setIn g (o + 1) _ (fun _ => .inl rfl)
theorem IW.set3 {w wy : World} {g o B g6 cap6 : Nat} {v : Value} {cur : Array Value} {L : List Pv.R3} {cs : Array Value} (h : IW w wy g o B g6 cap6 v cur L cs) (j : Nat) (hj : j < L.length) (c : Pv.R3) :
    IW w (((wy.setCell ⟨g6, j * 3, none⟩ (.int .i64 c.1)).setCell ⟨g6, j * 3 + 1, none⟩ (.int .i64 c.2.1)).setCell ⟨g6, j * 3 + 2, none⟩ (.int .i64 c.2.2)) g o B g6 cap6 v cur (L.set j c) cs := by
  have hin : g6 < w.heap.size → (fun k => k = g ∨ v.ownBlock = some k) g6 := fun hlt => by
    rcases h.n3 with e | e
    · exact .inr e
    · omega
  refine ⟨?_, ?_, ?_, ?_, h.n1, h.n2, h.n3⟩
  · rw [set_far _ _ _ _ g (Ne.symm h.n2), set_far _ _ _ _ g (Ne.symm h.n2), set_far _ _ _ _ g (Ne.symm h.n2), List.length_set]
    exact h.hb
  · rw [List.length_set]
    exact own_set3G h.own j hj c
  · unfold Blk
    rw [set_far _ _ _ _ _ (Ne.symm h.n1), set_far _ _ _ _ _ (Ne.symm h.n1), set_far _ _ _ _ _ (Ne.symm h.n1)]
    exact h.box
  · exact ((h.but.setIn g6 (j * 3) _ hin).setIn g6 (j * 3 + 1) _ hin).setIn g6 (j * 3 + 2) _ hin
theorem IW.drew {w wy : World} {g o B g6 cap6 : Nat} {v : Value} {cur : Array Value} {L : List Pv.R3} {cs : Array Value} (h : IW w wy g o B g6 cap6 v cur L cs) : IW w wy.drew g o B g6 cap6 v cur L cs := ⟨h.hb, h.own, h.box, h.but.drew, h.n1, h.n2, h.n3⟩
theorem IW.cell {w wy : World} {g o B g6 cap6 : Nat} {v : Value} {cur : Array Value} {L : List Pv.R3} {cs : Array Value} (h : IW w wy g o B g6 cap6 v cur L cs) (ho : o + 1 < cur.size) : wy.cell? ⟨g, o + 1, none⟩ = some (.slice (some ⟨g6, 0, none⟩) L.length cap6) := by
  have := cell_of_heap h.hb (o + 1)
  rw [this]
  simp [ho]
theorem infoRow : (Tryz.prog.info? 48).map (fun i => (i.zero, i.size, i.bytes)) = some (some (.agg #[.int .i64 0, .int .i64 0, .int .i64 0]), 3, 24) := by kernel_rfl
theorem rrow_one (c : Pv.R3) : ∀ u ∈ rrow c, u.oneCell' = true := by
  intro u hu; simp [rrow] at hu; rcases hu with rfl | rfl | rfl <;> rfl
/-- a line with one copy more -/
def InsPost (ks : List (Nat × Bool)) (w : World) (g o B : Nat) (v : Value) (cur : Array Value) (L : List Pv.R3) (r : Pv.R3) (e : Ending) (w' : World) : Prop :=
  e = .returned (.tuple #[]) ∧ But (fun k => k = g ∨ v.ownBlock = some k) w w' ∧ ∃ g6 cap6, w'.heap[g]? = some (.cells (cur.setIfInBounds (o + 1) (.slice (some ⟨g6, 0, none⟩) (L.length + 1) cap6)) 176 (0, 0)) ∧ w'.ownsRow B 48 3 (.slice (some ⟨g6, 0, none⟩) (L.length + 1) cap6) (L.length + 1) (rrows (Pv.insP ks r L)) ∧ (v.ownBlock = some g6 ∨ w.heap.size ≤ g6)
set_option maxRecDepth 100000 in
set_option maxHeartbeats 4000000 in
theorem linsert_any {w : World} {g o B : Nat} {vk v : Value} {cur : Array Value} {ks : List (Nat × Bool)} {L : List Pv.R3} (hb : w.heap[g]? = some (.cells cur 176 (0, 0))) (hk0 : cur[o]? = some vk) (hc0 : cur[o + 1]? = some v) (hrk : RdK w vk ks) (hkl : ks.length ≤ 1000) (hkc : ∀ k ∈ ks, k.1 < 3) (ho : w.ownsRow B 48 3 v L.length (rrows L)) (hB : B ≤ w.heap.size) (hl : L.length ≤ 90000) (p u q : Int) :
    Calls Tryz.prog 135 #[.pointer (some ⟨g, o, none⟩), .agg #[.int .i64 p, .int .i64 u, .int .i64 q]] w fun e w' => InsPost ks w g o B v cur L (p, u, q) e w' := by
  obtain ⟨i0, hi, hz0, hz1, hz2⟩ := info_parts infoRow
  have HB := hide hb
  have HO := hide ho
  have HRK := hide hrk
  have HKC := hide hkc
  have HK0 := hide hk0
  have HC0 := hide hc0
  have hgl : g < w.heap.size := (Array.getElem?_eq_some_iff.1 hb).1
  have hosz : o + 1 < cur.size := (Array.getElem?_eq_some_iff.1 hc0).1
  obtain ⟨xv, cv, rfl⟩ : ∃ x c, v = .slice x L.length c := by
    rcases own_form ho with ⟨h, h2⟩ | ⟨g, c, h⟩
    · exact ⟨none, 0, by rw [h, h2]⟩
    · exact ⟨_, c, h⟩
  have HNE : Hid (∀ k, (Value.slice xv L.length cv).ownBlock = some k → k ≠ g ∧ k < w.heap.size) := fun k hk => by
    refine ⟨?_, (ho.lt k hk).2⟩
    intro e
    subst e
    obtain ⟨cur', fz, h⟩ := own_type ho hk
    rw [hb] at h; cases h
  clear hb ho hrk hkc hk0 hc0
  go_enter Tryz.func135, Tryz.ntmps135
  go_upto_region 1 with fail
  have C0 := hide (K1.start w #[.int .i64 p, .int .i64 u, .int .i64 q] 48)
  generalize w.alloc (.cells #[.int .i64 p, .int .i64 u, .int .i64 q] 48) = w0 at *
  have HX : ∀ wx, Hid (Below w0.heap.size w0 wx → K1 w wx #[.int .i64 p, .int .i64 u, .int .i64 q] 48 ∧ wx.heap[g]? = some (.cells cur 176 (0, 0)) ∧ wx.ownsRow B 48 3 (.slice xv L.length cv) L.length (rrows L) ∧ wx.cell? ⟨g, o, none⟩ = some vk ∧ wx.cell? ⟨g, o + 1, none⟩ = some (.slice xv L.length cv) ∧ wx.cell? ⟨w.heap.size, 0, none⟩ = some (.int .i64 p) ∧ wx.cell? ⟨w.heap.size, 1, none⟩ = some (.int .i64 u) ∧ wx.cell? ⟨w.heap.size, 2, none⟩ = some (.int .i64 q)) := fun wx hb => by
    have C1 := C0.out.below hb
    have hb1 := (C1.bl.block g hgl).trans HB.out
    exact ⟨C1, hb1, own_below HO.out C1.bl, (cell_of_heap hb1 o).trans HK0.out, (cell_of_heap hb1 (o + 1)).trans HC0.out, cell_of_heap C1.a 0, cell_of_heap C1.a 1, cell_of_heap C1.a 2⟩
  go_wp2
  go_loopw [4] (fun i wr => ∃ k : Nat, k ≤ L.length ∧ i = .int .i64 k ∧ Below w0.heap.size w0 wr ∧ Hid (∀ j (hj : j < L.length), j < k → Pv.aheadP ks L[j] (p, u, q) = true)) (fun i _ => L.length - (intOf i).toNat)
  case atStart => exact ⟨0, by omega, rfl, Below.refl _ _, fun j hj h => by omega⟩
  case round =>
    obtain ⟨k, hk, rfl, hb, HN⟩ := hrel
    have B1 := hide hb
    clear hb
    obtain ⟨C1, hb1, o1, q0, q1, r0, r1, r2⟩ := (HX _).out B1.out
    have C1' := hide C1
    have O1 := hide o1
    clear hb1 o1 C1
    by_cases hlt : k < L.length
    · have hlt' : (k : Int) < (L.length : Int) := by omega
      obtain ⟨gc, oc, capc, e, _⟩ := RdG.form1 (RdR.ofOwn O1.out) (by omega)
      cases e
      obtain ⟨c0, c1, c2⟩ := (RdR.ofOwn O1.out).cell k hlt
      have Q0 := hide q0
      clear q0
      go_upto_region 2 with fail
      go_still_tail 17, (by kernel_rfl)
      go_wp2_with fail
      refine (lahead_any (w := wr.drew) (vk := vk) Q0.out (HRK.out.below (below_d C1'.out.bl)) hkl HKC.out _ _ _ _ _ _).mono ?_
      rintro e w3 ⟨rfl, e3⟩
      replace e3 := undrew e3
      have B3 := hide (B1.out.trans (e3.mono B1.out.size))
      clear q1 r0 r1 r2 c0 c1 c2 e3 C1' O1 Q0
      cases hlw : Pv.aheadP ks (L[k].1, L[k].2.1, L[k].2.2) (p, u, q)
      · have HPL := hide (Pv.plP_is ks (p, u, q) L k (by omega) (fun j hj h => HN.out j hj h) (fun h => hlw))
        obtain ⟨C2x, hb2, o2, _, q1, r0, r1, r2⟩ := (HX _).out B3.out
        have C2 := hide C2x
        have HB2 := hide hb2
        have O2 := hide o2
        clear C2x hb2 o2
        have hs2 := C2.out.size
        have qa : (w3.alloc (.cells #[.int .i64 p, .int .i64 u, .int .i64 q] 48)).cell? ⟨g, o + 1, none⟩ = some (.slice (some ⟨gc, oc, none⟩) L.length cv) := by
          rw [((Below.refl w3.heap.size w3).alloc (Nat.le_refl _) _).cell (p := ⟨g, o + 1, none⟩) (by show g < w3.heap.size; omega)]
          exact q1
        have hB3 : B ≤ w3.heap.size := by omega
        go_upto_region 4 with fail
        go_cut [36] from 27 to 68 (fun q36 wy => ∃ g6 cap6, IW w wy g o B g6 cap6 (.slice (some ⟨gc, oc, none⟩) L.length cv) cur (L ++ [(p, u, q)]) #[.int .i64 p, .int .i64 u, .int .i64 q])
        case first =>
          go_region_law (refine step_append_lies _ rfl (.tmp 31) (.tmp 33) 64 rfl B 48 i0 _ 3 24 Tryz.underlying64 hi hz0 hz1 hz2 rfl (by decide) _ L.length (rrows L) rfl (O2.out.alloc _).drew _ 1 1 (rrow (p, u, q)) rfl rfl (World.news_of_block (heap_alloc_new _ _)) (rrow_one (p, u, q)) (by decide) (by unfold maxLen; omega) (by omega) (by simp; omega) _ rfl ?_; intro g6 cap6 w6 hown6 hgrow6 hat6 hlt6; obtain ⟨hb6, PW6⟩ := IW.push (o := o) (c := (p, u, q)) hgl C2.out HB2.out HNE.out (below_dB ((Below.refl _ _).alloc (Nat.le_refl _) _)) hgrow6 hat6 (by simp) hown6; have y0 : w6.cell? ⟨g, o + 1, none⟩ = some (.slice (some ⟨gc, oc, none⟩) L.length cv) := (cell_of_heap hb6 (o + 1)).trans HC0.out; have z0 := free_of_heap hb6 (o + 1); have HPW := hide PW6; clear hb6 PW6 hown6 hgrow6 hat6 hlt6)
          all_goals
            go_wp2
            go_meet
            case rel => exact ⟨_, _, HPW.out⟩
        case rest =>
          obtain ⟨g6, cap6, hpw⟩ := hcut
          have P6 := hide hpw
          clear hpw r0 r1 r2 q1 qa
          have HLN : Hid ((L ++ [(p, u, q)]).length = L.length + 1) := by show _ = _; simp
          have q1 : wc.cell? ⟨g, o + 1, none⟩ = some (.slice (some ⟨g6, 0, none⟩) (L.length + 1) cap6) := by
            have := P6.out.cell hosz
            rw [HLN.out] at this
            exact this
          have hwr : IntKind.i64.wrap (L.length : Int) = (L.length : Int) := wrap_id2 (by omega) (by omega)
          go_wp2
          go_loopw [5] (fun i5 wy => ∃ i : Nat, k ≤ i ∧ i ≤ L.length ∧ i5 = .int .i64 i ∧ IW w wy g o B g6 cap6 (.slice (some ⟨gc, oc, none⟩) L.length cv) cur (shiftG L (p, u, q) i) #[.int .i64 p, .int .i64 u, .int .i64 q]) (fun i5 _ => (intOf i5).toNat)
          case atStart => exact ⟨L.length, by omega, Nat.le_refl _, rfl, by rw [shiftG_top]; exact P6.out⟩
          case round =>
            obtain ⟨i, hi1, hi2, rfl, hpw⟩ := hrel
            have P7 := hide hpw
            clear hpw
            have HLS := hide (shiftG_len L (p, u, q) i hi2)
            clear q1
            have q1 : wr.cell? ⟨g, o + 1, none⟩ = some (.slice (some ⟨g6, 0, none⟩) (L.length + 1) cap6) := by
              have := P7.out.cell hosz
              rw [HLS.out] at this
              exact this
            by_cases hik : k < i
            · obtain ⟨j, rfl⟩ : ∃ j, i = j + 1 := ⟨i - 1, by omega⟩
              have hjl : j < L.length := by omega
              have hik' : (k : Int) < (j : Int) + 1 := by omega
              have hj1 : j < (shiftG L (p, u, q) (j + 1)).length := by rw [HLS.out]; omega
              have hj2 : j + 1 < (shiftG L (p, u, q) (j + 1)).length := by rw [HLS.out]; omega
              have eg : (shiftG L (p, u, q) (j + 1))[j] = L[j] := by
                have := shiftG_get L (p, u, q) j hjl
                rw [List.getElem?_eq_getElem hj1] at this
                exact Option.some.inj this
              obtain ⟨a0, a1, a2⟩ := (RdR.ofOwn P7.out.own).cell j hj1
              rw [eg] at a0 a1 a2
              obtain ⟨d0, d1, d2⟩ := (RdR.ofOwn P7.out.own).cell (j + 1) hj2
              simp only [Nat.zero_add] at a0 a1 a2 d0 d1 d2
              have f0 := own_freeG P7.out.own ((j + 1) * 3)
              have f1 := own_freeG P7.out.own ((j + 1) * 3 + 1)
              have f2 := own_freeG P7.out.own ((j + 1) * 3 + 2)
              have HST := hide (shiftG_step L (p, u, q) j hjl)
              have HP8 := hide (P7.out.set3 (j + 1) hj2 L[j])
              rw [HST.out] at HP8
              have hwj : IntKind.i64.wrap (j : Int) = (j : Int) := wrap_id2 (by omega) (by omega)
              have b1 : j < L.length + 1 := by omega
              have b2 : j + 1 < L.length + 1 := by omega
              have b3 : (j : Int) < (L.length : Int) + 1 := by omega
              have b4 : (j : Int) + 1 < (L.length : Int) + 1 := by omega
              have b5 : (0 : Int) ≤ (j : Int) + 1 := by omega
              clear eg
              go_upto_region 8 with fail
              go_still_tail 14, (by kernel_rfl)
              go_wp2
              go_roundw
              case rel => exact ⟨j, by omega, by omega, by first | go_num | rfl, HP8.out.drew⟩
              case measure => simp [intOf]
            · obtain rfl : i = k := by omega
              have hik' : ¬ (i : Int) < (i : Int) := by omega
              have hj2 : i < (shiftG L (p, u, q) i).length := by rw [HLS.out]; omega
              obtain ⟨d0, d1, d2⟩ := (RdR.ofOwn P7.out.own).cell i hj2
              simp only [Nat.zero_add] at d0 d1 d2
              have f0 := own_freeG P7.out.own (i * 3)
              have f1 := own_freeG P7.out.own (i * 3 + 1)
              have f2 := own_freeG P7.out.own (i * 3 + 2)
              have r0 : wr.cell? ⟨w.heap.size, 0, none⟩ = some (.int .i64 p) := P7.out.box.cell 0
              have r1 : wr.cell? ⟨w.heap.size, 1, none⟩ = some (.int .i64 u) := P7.out.box.cell 1
              have r2 : wr.cell? ⟨w.heap.size, 2, none⟩ = some (.int .i64 q) := P7.out.box.cell 2
              have HP8 := hide (P7.out.set3 i hj2 (p, u, q))
              have HEND : Hid ((shiftG L (p, u, q) i).set i (p, u, q) = Pv.insP ks (p, u, q) L) := by
                show _ = _
                rw [shiftG_end L (p, u, q) i hi2]
                unfold Pv.insP
                rw [HPL.out]
              rw [HEND.out] at HP8
              have HIL := hide (Pv.insP_len ks (p, u, q) L)
              have b1 : i < L.length + 1 := by omega
              have b3 : (i : Int) < (L.length : Int) + 1 := by omega
              go_upto_region 9 with fail
              go_still_tail 7, (by kernel_rfl)
              go_wp2
              go_end0
              have h8 := HP8.out.drew
              refine ⟨rfl, h8.but, g6, cap6, ?_, ?_, h8.n3⟩
              · have := h8.hb
                rw [HIL.out] at this
                exact this
              · have := h8.own
                rw [HIL.out] at this
                exact this
      · have HLW : Hid (Pv.aheadP ks L[k] (p, u, q) = true) := hlw
        go_wp2
        go_roundw
        case rel =>
          refine ⟨k + 1, by omega, by go_num, B3.out, fun j hj h => ?_⟩
          rcases Nat.lt_or_ge j k with h1 | h1
          · exact HN.out j hj h1
          · obtain rfl : j = k := by omega
            exact HLW.out
        case measure => simp [intOf]; omega
    · have hlt' : ¬ (k : Int) < (L.length : Int) := by omega
      have HPL := hide (Pv.plP_is ks (p, u, q) L k hk (fun j hj h => HN.out j hj h) (fun h => by omega))
      go_wp2
      go_quiet (fail)
      have B3 : Hid (Below w0.heap.size w0 (wr.drewN nq)) := below_drewM B1.out nq
      clear q0 q1 r0 r1 r2 C1' O1
      generalize wr.drewN nq = w3 at *
      obtain ⟨C2x, hb2, o2, _, q1, r0, r1, r2⟩ := (HX _).out B3.out
      have C2 := hide C2x
      have HB2 := hide hb2
      have O2 := hide o2
      clear C2x hb2 o2
      have hs2 := C2.out.size
      have qa : (w3.alloc (.cells #[.int .i64 p, .int .i64 u, .int .i64 q] 48)).cell? ⟨g, o + 1, none⟩ = some (.slice xv L.length cv) := by
        rw [((Below.refl w3.heap.size w3).alloc (Nat.le_refl _) _).cell (p := ⟨g, o + 1, none⟩) (by show g < w3.heap.size; omega)]
        exact q1
      have hB3 : B ≤ w3.heap.size := by omega
      go_upto_region 4 with fail
      go_cut [36] from 27 to 68 (fun q36 wy => ∃ g6 cap6, IW w wy g o B g6 cap6 (.slice xv L.length cv) cur (L ++ [(p, u, q)]) #[.int .i64 p, .int .i64 u, .int .i64 q])
      case first =>
        go_region_law (refine step_append_lies _ rfl (.tmp 31) (.tmp 33) 64 rfl B 48 i0 _ 3 24 Tryz.underlying64 hi hz0 hz1 hz2 rfl (by decide) _ L.length (rrows L) rfl (O2.out.alloc _).drew _ 1 1 (rrow (p, u, q)) rfl rfl (World.news_of_block (heap_alloc_new _ _)) (rrow_one (p, u, q)) (by decide) (by unfold maxLen; omega) (by omega) (by simp; omega) _ rfl ?_; intro g6 cap6 w6 hown6 hgrow6 hat6 hlt6; obtain ⟨hb6, PW6⟩ := IW.push (o := o) (c := (p, u, q)) hgl C2.out HB2.out HNE.out (below_dB ((Below.refl _ _).alloc (Nat.le_refl _) _)) hgrow6 hat6 (by simp) hown6; have y0 : w6.cell? ⟨g, o + 1, none⟩ = some (.slice xv L.length cv) := (cell_of_heap hb6 (o + 1)).trans HC0.out; have z0 := free_of_heap hb6 (o + 1); have HPW := hide PW6; clear hb6 PW6 hown6 hgrow6 hat6 hlt6)
        all_goals
          go_wp2
          go_meet
          case rel => exact ⟨_, _, HPW.out⟩
      case rest =>
        obtain ⟨g6, cap6, hpw⟩ := hcut
        have P6 := hide hpw
        clear hpw r0 r1 r2 q1 qa
        have HLN : Hid ((L ++ [(p, u, q)]).length = L.length + 1) := by show _ = _; simp
        have q1 : wc.cell? ⟨g, o + 1, none⟩ = some (.slice (some ⟨g6, 0, none⟩) (L.length + 1) cap6) := by
          have := P6.out.cell hosz
          rw [HLN.out] at this
          exact this
        have hwr : IntKind.i64.wrap (L.length : Int) = (L.length : Int) := wrap_id2 (by omega) (by omega)
        go_wp2
        go_loopw [5] (fun i5 wy => ∃ i : Nat, k ≤ i ∧ i ≤ L.length ∧ i5 = .int .i64 i ∧ IW w wy g o B g6 cap6 (.slice xv L.length cv) cur (shiftG L (p, u, q) i) #[.int .i64 p, .int .i64 u, .int .i64 q]) (fun i5 _ => (intOf i5).toNat)
        case atStart => exact ⟨L.length, by omega, Nat.le_refl _, rfl, by rw [shiftG_top]; exact P6.out⟩
        case round =>
          obtain ⟨i, hi1, hi2, rfl, hpw⟩ := hrel
          have P7 := hide hpw
          clear hpw
          have HLS := hide (shiftG_len L (p, u, q) i hi2)
          clear q1
          have q1 : wr.cell? ⟨g, o + 1, none⟩ = some (.slice (some ⟨g6, 0, none⟩) (L.length + 1) cap6) := by
            have := P7.out.cell hosz
            rw [HLS.out] at this
            exact this
          by_cases hik : k < i
          · exfalso; omega
          · obtain rfl : i = k := by omega
            have hik' : ¬ (i : Int) < (i : Int) := by omega
            have hj2 : i < (shiftG L (p, u, q) i).length := by rw [HLS.out]; omega
            obtain ⟨d0, d1, d2⟩ := (RdR.ofOwn P7.out.own).cell i hj2
            simp only [Nat.zero_add] at d0 d1 d2
            have f0 := own_freeG P7.out.own (i * 3)
            have f1 := own_freeG P7.out.own (i * 3 + 1)
            have f2 := own_freeG P7.out.own (i * 3 + 2)
            have r0 : wr.cell? ⟨w.heap.size, 0, none⟩ = some (.int .i64 p) := P7.out.box.cell 0
            have r1 : wr.cell? ⟨w.heap.size, 1, none⟩ = some (.int .i64 u) := P7.out.box.cell 1
            have r2 : wr.cell? ⟨w.heap.size, 2, none⟩ = some (.int .i64 q) := P7.out.box.cell 2
            have HP8 := hide (P7.out.set3 i hj2 (p, u, q))
            have HEND : Hid ((shiftG L (p, u, q) i).set i (p, u, q) = Pv.insP ks (p, u, q) L) := by
              show _ = _
              rw [shiftG_end L (p, u, q) i hi2]
              unfold Pv.insP
              rw [HPL.out]
            rw [HEND.out] at HP8
            have HIL := hide (Pv.insP_len ks (p, u, q) L)
            have b1 : i < L.length + 1 := by omega
            have b3 : (i : Int) < (L.length : Int) + 1 := by omega
            go_upto_region 9 with fail
            go_still_tail 7, (by kernel_rfl)
            go_wp2
            go_end0
            have h8 := HP8.out.drew
            refine ⟨rfl, h8.but, g6, cap6, ?_, ?_, h8.n3⟩
            · have := h8.hb
              rw [HIL.out] at this
              exact this
            · have := h8.own
              rw [HIL.out] at this
              exact this
end Go.Proofs.YtcoofnhdbejnpaaGreatDoor

