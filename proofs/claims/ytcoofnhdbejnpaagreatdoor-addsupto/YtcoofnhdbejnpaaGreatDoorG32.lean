/- Package paneskeep: order. -/
import Derived.Test.YtcoofnhdbejnpaaGreatDoorG07
import Derived.Test.YtcoofnhdbejnpaaGreatDoorG31
import Derived.StillTailTactics
namespace Go.Proofs.YtcoofnhdbejnpaaGreatDoor
open Go.RowKit
def ivals (l : List Int) : List Value := l.map (fun n => .int .i64 n)
theorem ivals_snoc (l : List Int) (n : Int) : ivals (l ++ [n]) = ivals l ++ [.int .i64 n] := by simp [ivals]
/-- the two boxes and the two lists of numbers of order -/
structure OM (w wr : World) (oa ob : Array Value) (vx vy : Value) (X Y : List Int) : Prop where
  k : K2 w wr oa 55 ob 55
  x : wr.ownsRow (w.heap.size + 2) 3 1 vx X.length (ivals X)
  y : wr.ownsRow (w.heap.size + 2) 3 1 vy Y.length (ivals Y)
  d : ∀ g, vx.ownBlock = some g → vy.ownBlock ≠ some g
theorem OM.below {w wr w1 : World} {oa ob : Array Value} {vx vy : Value} {X Y : List Int} (h : OM w wr oa ob vx vy X Y) (hb : Below wr.heap.size wr w1) : OM w w1 oa ob vx vy X Y :=
  ⟨h.k.below hb, own_below h.x hb, own_below h.y hb, h.d⟩
theorem OM.size {w wr : World} {oa ob : Array Value} {vx vy : Value} {X Y : List Int} (h : OM w wr oa ob vx vy X Y) : w.heap.size + 2 ≤ wr.heap.size := by
  have := (Array.getElem?_eq_some_iff.1 h.k.b).1
  omega
theorem K2.grown {w W w9 : World} {oa ob : Array Value} {t1 t2 : Nat} (h : K2 w W oa t1 ob t2) {row : Option Nat} (hg : W.grownBy w9 row) (hr : ∀ g, row = some g → w.heap.size + 2 ≤ g) : K2 w w9 oa t1 ob t2 := by
  have h1 := (Array.getElem?_eq_some_iff.1 h.b).1
  have b9 : Below w.heap.size W w9 := (Below.refl w.heap.size W).grown hg (by omega) (fun g q => by have := hr g q; omega)
  refine ⟨?_, ?_, h.bl.trans b9⟩
  · rw [hg.block _ (by omega) (fun e => by have := hr _ e.symm; omega)]; exact h.a
  · rw [hg.block _ (by omega) (fun e => by have := hr _ e.symm; omega)]; exact h.b
theorem OM.appX {w W w9 : World} {oa ob : Array Value} {vx vy v8 : Value} {X Y : List Int} {n : Int} (h : OM w W oa ob vx vy X Y) (h8 : w9.ownsRow (w.heap.size + 2) 3 1 v8 (X.length + 1) (ivals X ++ [.int .i64 n])) (hg : W.grownBy w9 vx.ownBlock) (hat : v8.ownBlock = vx.ownBlock ∨ v8.ownBlock = some W.heap.size) : OM w w9 oa ob v8 vy (X ++ [n]) Y := by
  refine ⟨h.k.grown hg (fun g q => (own_at h.x q).1), by rw [ivals_snoc, List.length_append]; exact h8, h.y.kept hg ?_, fun g q q2 => ?_⟩
  · cases hy : vy.ownBlock with
    | none => exact .inl rfl
    | some g => exact .inr (fun e => h.d g e.symm hy)
  · rcases hat with e | e
    · exact h.d g (by rw [← e]; exact q) q2
    · rw [e] at q
      have := (own_at h.y q2).2
      cases q
      omega
theorem OM.appY {w W w9 : World} {oa ob : Array Value} {vx vy v8 : Value} {X Y : List Int} {n : Int} (h : OM w W oa ob vx vy X Y) (h8 : w9.ownsRow (w.heap.size + 2) 3 1 v8 (Y.length + 1) (ivals Y ++ [.int .i64 n])) (hg : W.grownBy w9 vy.ownBlock) (hat : v8.ownBlock = vy.ownBlock ∨ v8.ownBlock = some W.heap.size) : OM w w9 oa ob vx v8 X (Y ++ [n]) := by
  refine ⟨h.k.grown hg (fun g q => (own_at h.y q).1), h.x.kept hg ?_, by rw [ivals_snoc, List.length_append]; exact h8, fun g q q2 => ?_⟩
  · cases hx : vx.ownBlock with
    | none => exact .inl rfl
    | some g => exact .inr (fun e => h.d g hx e.symm)
  · rcases hat with e | e
    · exact h.d g q (by rw [← e]; exact q2)
    · rw [e] at q2
      have := (own_at h.x q).2
      cases q2
      omega
theorem OM.setV {w W : World} {oa ob : Array Value} {vx vy : Value} {X Y : List Int} (h : OM w W oa ob vx vy X Y) {bm : Nat} {cs : Array Value} {fz : Nat × Nat} (hm : W.heap[bm]? = some (.cells cs 52 fz)) (hb : w.heap.size + 2 ≤ bm) (j : Nat) (z : Value) : OM w (W.setCell ⟨bm, j, none⟩ z) oa ob vx vy X Y := by
  have nx : ∀ {v : Value} {L : List Int}, W.ownsRow (w.heap.size + 2) 3 1 v L.length (ivals L) → ∀ g, v.ownBlock = some g → g ≠ bm := fun ho g q e => by
    obtain ⟨c9, f9, e9⟩ := own_type ho q
    rw [e, hm] at e9
    simp at e9
  refine ⟨⟨?_, ?_, h.k.bl.setCell (p := ⟨bm, j, none⟩) (by show w.heap.size ≤ bm; omega) z⟩, own_set_far h.x (nx h.x), own_set_far h.y (nx h.y), h.d⟩
  · rw [set_far _ _ _ _ _ (by omega)]; exact h.k.a
  · rw [set_far _ _ _ _ _ (by omega)]; exact h.k.b
theorem OM.start (w : World) (oa ob : Array Value) (a0 a1 a2 b0 b1 b2 : Int) : OM w ((((w.alloc (.cells oa 55)).alloc (.cells ob 55)).alloc (.cells #[.int .i64 a0, .int .i64 a1, .int .i64 a2] 3)).alloc (.cells #[.int .i64 b0, .int .i64 b1, .int .i64 b2] 3)) oa ob (.slice (some ⟨w.heap.size + 1 + 1, 0, none⟩) 3 3) (.slice (some ⟨w.heap.size + 1 + 1 + 1, 0, none⟩) 3 3) [a0, a1, a2] [b0, b1, b2] := by
  have k0 := K2.start w oa 55 ob 55
  have s0 : ((w.alloc (.cells oa 55)).alloc (.cells ob 55)).heap.size = w.heap.size + 1 + 1 := by simp
  generalize (w.alloc (.cells oa 55)).alloc (.cells ob 55) = W at *
  have o1 := World.ownsRow_lit (base := w.heap.size + 2) (size := 1) (e := 3) W #[.int .i64 a0, .int .i64 a1, .int .i64 a2] 3 (by omega) (by unfold maxLen; omega) rfl
  have b1' := (Below.refl W.heap.size W).alloc (Nat.le_refl _) (.cells #[.int .i64 a0, .int .i64 a1, .int .i64 a2] 3)
  have k1 := k0.below b1'
  have s1 : (W.alloc (.cells #[.int .i64 a0, .int .i64 a1, .int .i64 a2] 3)).heap.size = w.heap.size + 1 + 1 + 1 := by simp [s0]
  rw [s0] at o1
  generalize W.alloc (.cells #[.int .i64 a0, .int .i64 a1, .int .i64 a2] 3) = W1 at *
  have o2 := World.ownsRow_lit (base := w.heap.size + 2) (size := 1) (e := 3) W1 #[.int .i64 b0, .int .i64 b1, .int .i64 b2] 3 (by omega) (by unfold maxLen; omega) rfl
  have b2' := (Below.refl W1.heap.size W1).alloc (Nat.le_refl _) (.cells #[.int .i64 b0, .int .i64 b1, .int .i64 b2] 3)
  rw [s1] at o2
  refine ⟨k1.below b2', own_below o1 b2', o2, fun g q q2 => ?_⟩
  have e1 : w.heap.size + 1 + 1 = g := Option.some.inj q
  have e2 : w.heap.size + 1 + 1 + 1 = g := Option.some.inj q2
  omega
theorem keyL_take (o : Pv.Out) (k : Nat) (h : k < o.2.1.length) : (Pk.keyL o).take (3 + (k + 1)) = (Pk.keyL o).take (3 + k) ++ [Pk.vnum o.2.1[k]] := by
  have hl : 3 + k < (Pk.keyL o).length := by simp [Pk.keyL]; omega
  rw [show 3 + (k + 1) = (3 + k) + 1 by omega, List.take_succ_eq_append_getElem hl]
  congr 1
  have : (Pk.keyL o)[3 + k]? = some (Pk.vnum o.2.1[k]) := by
    rw [Nat.add_comm]
    unfold Pk.keyL
    simp [h]
  rw [List.getElem?_eq_getElem hl] at this
  exact congrArg (fun x => [x]) (Option.some.inj this)
theorem keyL_len (o : Pv.Out) : (Pk.keyL o).length = 3 + o.2.1.length := by simp [Pk.keyL]; omega
theorem cmp_drop : ∀ (X Y : List Int) (k : Nat) (h1 : k < X.length) (h2 : k < Y.length), Pk.cmpL (X.drop k) (Y.drop k) = if X[k] < Y[k] then -1 else if Y[k] < X[k] then 1 else Pk.cmpL (X.drop (k + 1)) (Y.drop (k + 1)) := by
  intro X Y k h1 h2
  rw [List.drop_eq_getElem_cons h1, List.drop_eq_getElem_cons h2, Pk.cmpL]
set_option maxRecDepth 100000 in
set_option maxHeartbeats 4000000 in
theorem order_any {w : World} (a b : Pv.Out) {sa sb : Value} (ha : RdV w sa a.2.1) (hb : RdV w sb b.2.1) (hl : a.2.1.length = b.2.1.length) (hn : a.2.1.length ≤ 1000) :
    Calls Tryz.prog 59 #[ov a sa, ov b sb] w fun e w' => e = .returned (.int .i64 (Pk.cmpL (Pk.keyL a) (Pk.keyL b))) ∧ Below w.heap.size w w' := by
  obtain ⟨j0, hj, hy0, hy1, hy2⟩ := info_parts infoInt
  obtain ⟨xa, ca, rfl⟩ := RdG.sl ha
  obtain ⟨xb, cb, eb⟩ := RdG.sl hb
  rw [← hl] at eb
  subst eb
  have HA := hide ha
  have HB := hide hb
  have HTA := hide (keyL_take a)
  have HTB := hide (keyL_take b)
  have HLA := hide (keyL_len a)
  have HLB : Hid ((Pk.keyL b).length = 3 + a.2.1.length) := by show _ = _; rw [keyL_len, hl]
  have HL := hide hl
  have H3A : Hid ((Pk.keyL a).take (3 + 0) = [a.1.1, a.1.2.1, a.1.2.2]) := rfl
  have H3B : Hid ((Pk.keyL b).take (3 + 0) = [b.1.1, b.1.2.1, b.1.2.2]) := rfl
  clear ha hb hl
  generalize hKA : Pk.keyL a = KA at *
  generalize hKB : Pk.keyL b = KB at *
  clear hKA hKB
  obtain ⟨⟨p, u, v⟩, va, na⟩ := a
  obtain ⟨⟨p', u', v'⟩, vb, nb⟩ := b
  simp only [] at *
  unfold ov
  simp only []
  go_enter Tryz.func59, Tryz.ntmps59
  go_upto_region 3 with fail
  have O3 := hide (OM.start w #[.int .i64 p, .int .i64 u, .int .i64 v, .slice xa va.length ca, .int .i64 na] #[.int .i64 p', .int .i64 u', .int .i64 v', .slice xb va.length cb, .int .i64 nb] p u v p' u' v')
  rw [← H3A.out, ← H3B.out] at O3
  generalize (((w.alloc (.cells #[.int .i64 p, .int .i64 u, .int .i64 v, .slice xa va.length ca, .int .i64 na] 55)).alloc (.cells #[.int .i64 p', .int .i64 u', .int .i64 v', .slice xb va.length cb, .int .i64 nb] 55)).alloc (.cells #[.int .i64 p, .int .i64 u, .int .i64 v] 3)).alloc (.cells #[.int .i64 p', .int .i64 u', .int .i64 v'] 3) = w3 at *
  clear H3A H3B
  go_wp2
  go_loopw [5, 6, 7] (fun sx sy i wr => ∃ k : Nat, k ≤ va.length ∧ i = .int .i64 k ∧ (∃ x n c, sx = .slice x n c) ∧ (∃ x n c, sy = .slice x n c) ∧ Hid (OM w wr #[.int .i64 p, .int .i64 u, .int .i64 v, .slice xa va.length ca, .int .i64 na] #[.int .i64 p', .int .i64 u', .int .i64 v', .slice xb va.length cb, .int .i64 nb] sx sy (KA.take (3 + k)) (KB.take (3 + k)))) (fun _ _ i _ => va.length - (intOf i).toNat)
  case atStart => exact ⟨0, by omega, rfl, ⟨_, _, _, rfl⟩, ⟨_, _, _, rfl⟩, O3⟩
  case round =>
    obtain ⟨k, hk, rfl, ⟨x5, n5, c5, rfl⟩, ⟨x6, n6, c6, rfl⟩, O4⟩ := hrel
    have a3 : wr.cell? ⟨w.heap.size, 3, none⟩ = some (.slice xa va.length ca) := cell_of_heap O4.out.k.a 3
    have b3 : wr.cell? ⟨w.heap.size + 1, 3, none⟩ = some (.slice xb va.length cb) := cell_of_heap O4.out.k.b 3
    clear O3
    by_cases hlt : k < va.length
    · have hlt' : (k : Int) < (va.length : Int) := by omega
      have hltb : k < vb.length := by rw [← HL.out]; exact hlt
      have HA4 := hide (RdG.below HA.out O4.out.k.bl)
      have HB4 := hide (RdG.below HB.out O4.out.k.bl)
      obtain ⟨ga, oa, ca', ea, _⟩ := RdG.form1 HA4.out (by omega)
      cases ea
      obtain ⟨gb, ob, cb', eb, _⟩ := RdG.form1 HB4.out (by omega)
      rw [← HL.out] at eb
      cases eb
      obtain ⟨d0, d1⟩ := RdV.cell HA4.out k hlt
      obtain ⟨f0, f1⟩ := RdV.cell HB4.out k hltb
      have HXT := hide (HTA.out k hlt)
      have HYT := hide (HTB.out k hltb)
      generalize va[k] = xk at *
      generalize hyk : vb[k] = yk at *
      have HYK := hide hyk
      clear hyk
      have hka : (KA.take (3 + k)).length = 3 + k := by rw [List.length_take, HLA.out]; omega
      have hkb : (KB.take (3 + k)).length = 3 + k := by rw [List.length_take, HLB.out]; omega
      generalize KA.take (3 + k) = X at *
      generalize KB.take (3 + k) = Y at *
      go_upto_region 7 with fail
      have O7 := hide (O4.out.below ((Below.refl _ _).alloc (Nat.le_refl _) (.cells #[.bool xk.isSome, .int .i64 (xk.getD 0)] 52)))
      have B7 := (Below.refl wr.heap.size wr).alloc (Nat.le_refl _) (.cells #[.bool xk.isSome, .int .i64 (xk.getD 0)] 52)
      have M7 := hide (heap_alloc_new wr (.cells #[.bool xk.isSome, .int .i64 (xk.getD 0)] 52))
      generalize wr.alloc (.cells #[.bool xk.isSome, .int .i64 (xk.getD 0)] 52) = w7 at *
      have HB7 := hide (RdG.below HB4.out B7)
      obtain ⟨f0, f1⟩ := RdV.cell HB7.out k hltb
      rw [HYK.out] at f0 f1
      have b7 : w7.cell? ⟨w.heap.size + 1, 3, none⟩ = some (.slice (some ⟨gb, ob, none⟩) va.length cb) := cell_of_heap O7.out.k.b 3
      have hbm2' := O4.out.size
      generalize wr.heap.size = bm at *
      clear a3 b3 d0 d1 B7 O4 HA4 HB4
      go_upto_region 8 with fail
      have O8 := hide (O7.out.below ((Below.refl _ _).alloc (Nat.le_refl _) (.cells #[.bool yk.isSome, .int .i64 (yk.getD 0)] 52)))
      have B8 := (Below.refl w7.heap.size w7).alloc (Nat.le_refl _) (.cells #[.bool yk.isSome, .int .i64 (yk.getD 0)] 52)
      have N8 := hide (heap_alloc_new w7 (.cells #[.bool yk.isSome, .int .i64 (yk.getD 0)] 52))
      have M8 : Hid ((w7.alloc (.cells #[.bool yk.isSome, .int .i64 (yk.getD 0)] 52)).heap[bm]? = some (.cells #[.bool xk.isSome, .int .i64 (xk.getD 0)] 52 (0, 0))) := (B8.block bm (Array.getElem?_eq_some_iff.1 M7.out).1).trans M7.out
      have hbm : bm < w7.heap.size := (Array.getElem?_eq_some_iff.1 M7.out).1
      generalize w7.alloc (.cells #[.bool yk.isSome, .int .i64 (yk.getD 0)] 52) = w8 at *
      generalize w7.heap.size = bn at *
      clear b7 f0 f1 B8 O7 M7 HB7
      have hbmn : bm ≠ bn := by omega
      have hbm2 : w.heap.size + 2 ≤ bm := hbm2'
      have hbn2 : w.heap.size + 2 ≤ bn := by omega
      have nvX : ∀ g, Value.ownBlock (.slice x5 n5 c5) = some g → g ≠ bn := fun g q e => by
        obtain ⟨c9, f9, e9⟩ := own_type O8.out.x q
        rw [e, N8.out] at e9
        simp at e9
      cases xk with
      | none =>
        simp only [Option.isSome, Option.getD] at M8
        have m0 : w8.cell? ⟨bm, 0, none⟩ = some (.bool false) := cell_of_heap M8.out 0
        have m1 : w8.cell? ⟨bm, 1, none⟩ = some (.int .i64 0) := cell_of_heap M8.out 1
        have mf := free_of_heap M8.out 1
        go_upto_region 10 with fail
        have O10 := hide (O8.out.setV M8.out hbm2 1 (.int .i64 (-1099511627776)))
        have M10 : Hid ((w8.setCell ⟨bm, 1, none⟩ (.int .i64 (-1099511627776))).heap[bm]? = some (.cells #[.bool false, .int .i64 (-1099511627776)] 52 (0, 0))) := set21 M8.out _
        have N10 : Hid ((w8.setCell ⟨bm, 1, none⟩ (.int .i64 (-1099511627776))).heap[bn]? = some (.cells #[.bool yk.isSome, .int .i64 (yk.getD 0)] 52 (0, 0))) := (set_far _ _ _ _ bn (Ne.symm hbmn)).trans N8.out
        generalize w8.setCell ⟨bm, 1, none⟩ (.int .i64 (-1099511627776)) = w10 at *
        clear m0 m1 mf O8 M8 N8
        cases yk with
        | none =>
          simp only [Option.isSome, Option.getD] at N10
          have m0 : w10.cell? ⟨bn, 0, none⟩ = some (.bool false) := cell_of_heap N10.out 0
          have m1 : w10.cell? ⟨bn, 1, none⟩ = some (.int .i64 0) := cell_of_heap N10.out 1
          have mf := free_of_heap N10.out 1
          go_upto_region 12 with fail
          have O12 := hide (O10.out.setV N10.out hbn2 1 (.int .i64 (-1099511627776)))
          have N12 : Hid ((w10.setCell ⟨bn, 1, none⟩ (.int .i64 (-1099511627776))).heap[bn]? = some (.cells #[.bool false, .int .i64 (-1099511627776)] 52 (0, 0))) := set21 N10.out _
          have M12 : Hid ((w10.setCell ⟨bn, 1, none⟩ (.int .i64 (-1099511627776))).heap[bm]? = some (.cells #[.bool false, .int .i64 (-1099511627776)] 52 (0, 0))) := (set_far _ _ _ _ bm hbmn).trans M10.out
          generalize w10.setCell ⟨bn, 1, none⟩ (.int .i64 (-1099511627776)) = w12 at *
          clear m0 m1 mf O10 M10 N10
          have s1 : w12.cell? ⟨bm, 1, none⟩ = some (.int .i64 (-1099511627776)) := cell_of_heap M12.out 1
          have hs12 := O12.out.size
          have hbn9 : bn < w12.heap.size := (Array.getElem?_eq_some_iff.1 N12.out).1
          go_upto_region 13 with (at_builtin; refine wpList_append_own_at _ rfl (.tmp 63) (.tmp 66) 25 rfl (w.heap.size + 2) 3 j0 _ 1 8 Tryz.underlying25 hj hy0 hy1 hy2 rfl (by decide) _ X.length (ivals X) rfl (O12.out.x.alloc _) _ 1 1 [.int .i64 (-1099511627776)] rfl rfl (World.news_of_block (heap_alloc_new _ _)) (by intro u hu; simp at hu; rw [hu]; rfl) (by unfold maxLen; omega) (by omega) (by simp; omega) ?_; intro v8 w9 hown8 hgrow8 hnil8 hat8; have O13 := hide (OM.appX (O12.out.below ((Below.refl _ _).alloc (Nat.le_refl _) _)) hown8 hgrow8 hat8); have N13 : Hid (w9.heap[bn]? = some (.cells #[.bool false, .int .i64 (-1099511627776)] 52 (0, 0))) := (hgrow8.block bn (by simp; omega) (fun e => (nvX bn e.symm) rfl)).trans ((((Below.refl _ _).alloc (Nat.le_refl _) _).block bn hbn9).trans N12.out); clear hown8 hgrow8 hnil8 hat8)
          clear s1 M12 N12 O12
          have t1 : w9.cell? ⟨bn, 1, none⟩ = some (.int .i64 (-1099511627776)) := cell_of_heap N13.out 1
          have hs13 := O13.out.size
          obtain ⟨x8, n8, c8, rfl⟩ := own_sl O13.out.x
          go_wp2_with (at_builtin; refine wpList_append_own_at _ rfl (.tmp 68) (.tmp 71) 25 rfl (w.heap.size + 2) 3 j0 _ 1 8 Tryz.underlying25 hj hy0 hy1 hy2 rfl (by decide) _ Y.length (ivals Y) rfl (O13.out.y.alloc _) _ 1 1 [.int .i64 (-1099511627776)] rfl rfl (World.news_of_block (heap_alloc_new _ _)) (by intro u hu; simp at hu; rw [hu]; rfl) (by unfold maxLen; omega) (by omega) (by simp; omega) ?_; intro v9 w14 hown9 hgrow9 hnil9 hat9; have O14 := hide (OM.appY (O13.out.below ((Below.refl _ _).alloc (Nat.le_refl _) _)) hown9 hgrow9 hat9); clear hown9 hgrow9 hnil9 hat9)
          obtain ⟨x9, n9, c9, rfl⟩ := own_sl O14.out.y
          go_roundw
          case rel => exact ⟨k + 1, by omega, by go_num, ⟨_, _, _, rfl⟩, ⟨_, _, _, rfl⟩, by rw [HXT.out, HYT.out]; exact O14⟩
          case measure => simp [intOf]; omega
        | some ym =>
          simp only [Option.isSome, Option.getD] at N10
          have m0 : w10.cell? ⟨bn, 0, none⟩ = some (.bool true) := cell_of_heap N10.out 0
          have O12 := O10
          have M12 := M10
          have N12 : Hid (w10.heap[bn]? = some (.cells #[.bool true, .int .i64 ym] 52 (0, 0))) := N10.out
          clear O10 M10 N10
          go_upto_region 12 with fail
          clear m0
          generalize w10 = w12 at *
          have s1 : w12.cell? ⟨bm, 1, none⟩ = some (.int .i64 (-1099511627776)) := cell_of_heap M12.out 1
          have hs12 := O12.out.size
          have hbn9 : bn < w12.heap.size := (Array.getElem?_eq_some_iff.1 N12.out).1
          go_upto_region 13 with (at_builtin; refine wpList_append_own_at _ rfl (.tmp 63) (.tmp 66) 25 rfl (w.heap.size + 2) 3 j0 _ 1 8 Tryz.underlying25 hj hy0 hy1 hy2 rfl (by decide) _ X.length (ivals X) rfl (O12.out.x.alloc _) _ 1 1 [.int .i64 (-1099511627776)] rfl rfl (World.news_of_block (heap_alloc_new _ _)) (by intro u hu; simp at hu; rw [hu]; rfl) (by unfold maxLen; omega) (by omega) (by simp; omega) ?_; intro v8 w9 hown8 hgrow8 hnil8 hat8; have O13 := hide (OM.appX (O12.out.below ((Below.refl _ _).alloc (Nat.le_refl _) _)) hown8 hgrow8 hat8); have N13 : Hid (w9.heap[bn]? = some (.cells #[.bool true, .int .i64 ym] 52 (0, 0))) := (hgrow8.block bn (by simp; omega) (fun e => (nvX bn e.symm) rfl)).trans ((((Below.refl _ _).alloc (Nat.le_refl _) _).block bn hbn9).trans N12.out); clear hown8 hgrow8 hnil8 hat8)
          clear s1 M12 N12 O12
          have t1 : w9.cell? ⟨bn, 1, none⟩ = some (.int .i64 ym) := cell_of_heap N13.out 1
          have hs13 := O13.out.size
          obtain ⟨x8, n8, c8, rfl⟩ := own_sl O13.out.x
          go_wp2_with (at_builtin; refine wpList_append_own_at _ rfl (.tmp 68) (.tmp 71) 25 rfl (w.heap.size + 2) 3 j0 _ 1 8 Tryz.underlying25 hj hy0 hy1 hy2 rfl (by decide) _ Y.length (ivals Y) rfl (O13.out.y.alloc _) _ 1 1 [.int .i64 ym] rfl rfl (World.news_of_block (heap_alloc_new _ _)) (by intro u hu; simp at hu; rw [hu]; rfl) (by unfold maxLen; omega) (by omega) (by simp; omega) ?_; intro v9 w14 hown9 hgrow9 hnil9 hat9; have O14 := hide (OM.appY (O13.out.below ((Below.refl _ _).alloc (Nat.le_refl _) _)) hown9 hgrow9 hat9); clear hown9 hgrow9 hnil9 hat9)
          obtain ⟨x9, n9, c9, rfl⟩ := own_sl O14.out.y
          go_roundw
          case rel => exact ⟨k + 1, by omega, by go_num, ⟨_, _, _, rfl⟩, ⟨_, _, _, rfl⟩, by rw [HXT.out, HYT.out]; exact O14⟩
          case measure => simp [intOf]; omega
      | some xm =>
        simp only [Option.isSome, Option.getD] at M8
        have m0 : w8.cell? ⟨bm, 0, none⟩ = some (.bool true) := cell_of_heap M8.out 0
        have O10 := O8
        have M10 : Hid (w8.heap[bm]? = some (.cells #[.bool true, .int .i64 xm] 52 (0, 0))) := M8.out
        have N10 := N8
        clear O8 M8 N8
        go_upto_region 10 with fail
        clear m0
        generalize w8 = w10 at *
        cases yk with
        | none =>
          simp only [Option.isSome, Option.getD] at N10
          have m0 : w10.cell? ⟨bn, 0, none⟩ = some (.bool false) := cell_of_heap N10.out 0
          have m1 : w10.cell? ⟨bn, 1, none⟩ = some (.int .i64 0) := cell_of_heap N10.out 1
          have mf := free_of_heap N10.out 1
          go_upto_region 12 with fail
          have O12 := hide (O10.out.setV N10.out hbn2 1 (.int .i64 (-1099511627776)))
          have N12 : Hid ((w10.setCell ⟨bn, 1, none⟩ (.int .i64 (-1099511627776))).heap[bn]? = some (.cells #[.bool false, .int .i64 (-1099511627776)] 52 (0, 0))) := set21 N10.out _
          have M12 : Hid ((w10.setCell ⟨bn, 1, none⟩ (.int .i64 (-1099511627776))).heap[bm]? = some (.cells #[.bool true, .int .i64 xm] 52 (0, 0))) := (set_far _ _ _ _ bm hbmn).trans M10.out
          generalize w10.setCell ⟨bn, 1, none⟩ (.int .i64 (-1099511627776)) = w12 at *
          clear m0 m1 mf O10 M10 N10
          have s1 : w12.cell? ⟨bm, 1, none⟩ = some (.int .i64 xm) := cell_of_heap M12.out 1
          have hs12 := O12.out.size
          have hbn9 : bn < w12.heap.size := (Array.getElem?_eq_some_iff.1 N12.out).1
          go_upto_region 13 with (at_builtin; refine wpList_append_own_at _ rfl (.tmp 63) (.tmp 66) 25 rfl (w.heap.size + 2) 3 j0 _ 1 8 Tryz.underlying25 hj hy0 hy1 hy2 rfl (by decide) _ X.length (ivals X) rfl (O12.out.x.alloc _) _ 1 1 [.int .i64 xm] rfl rfl (World.news_of_block (heap_alloc_new _ _)) (by intro u hu; simp at hu; rw [hu]; rfl) (by unfold maxLen; omega) (by omega) (by simp; omega) ?_; intro v8 w9 hown8 hgrow8 hnil8 hat8; have O13 := hide (OM.appX (O12.out.below ((Below.refl _ _).alloc (Nat.le_refl _) _)) hown8 hgrow8 hat8); have N13 : Hid (w9.heap[bn]? = some (.cells #[.bool false, .int .i64 (-1099511627776)] 52 (0, 0))) := (hgrow8.block bn (by simp; omega) (fun e => (nvX bn e.symm) rfl)).trans ((((Below.refl _ _).alloc (Nat.le_refl _) _).block bn hbn9).trans N12.out); clear hown8 hgrow8 hnil8 hat8)
          clear s1 M12 N12 O12
          have t1 : w9.cell? ⟨bn, 1, none⟩ = some (.int .i64 (-1099511627776)) := cell_of_heap N13.out 1
          have hs13 := O13.out.size
          obtain ⟨x8, n8, c8, rfl⟩ := own_sl O13.out.x
          go_wp2_with (at_builtin; refine wpList_append_own_at _ rfl (.tmp 68) (.tmp 71) 25 rfl (w.heap.size + 2) 3 j0 _ 1 8 Tryz.underlying25 hj hy0 hy1 hy2 rfl (by decide) _ Y.length (ivals Y) rfl (O13.out.y.alloc _) _ 1 1 [.int .i64 (-1099511627776)] rfl rfl (World.news_of_block (heap_alloc_new _ _)) (by intro u hu; simp at hu; rw [hu]; rfl) (by unfold maxLen; omega) (by omega) (by simp; omega) ?_; intro v9 w14 hown9 hgrow9 hnil9 hat9; have O14 := hide (OM.appY (O13.out.below ((Below.refl _ _).alloc (Nat.le_refl _) _)) hown9 hgrow9 hat9); clear hown9 hgrow9 hnil9 hat9)
          obtain ⟨x9, n9, c9, rfl⟩ := own_sl O14.out.y
          go_roundw
          case rel => exact ⟨k + 1, by omega, by go_num, ⟨_, _, _, rfl⟩, ⟨_, _, _, rfl⟩, by rw [HXT.out, HYT.out]; exact O14⟩
          case measure => simp [intOf]; omega
        | some ym =>
          simp only [Option.isSome, Option.getD] at N10
          have m0 : w10.cell? ⟨bn, 0, none⟩ = some (.bool true) := cell_of_heap N10.out 0
          have O12 := O10
          have M12 := M10
          have N12 : Hid (w10.heap[bn]? = some (.cells #[.bool true, .int .i64 ym] 52 (0, 0))) := N10.out
          clear O10 M10 N10
          go_upto_region 12 with fail
          clear m0
          generalize w10 = w12 at *
          have s1 : w12.cell? ⟨bm, 1, none⟩ = some (.int .i64 xm) := cell_of_heap M12.out 1
          have hs12 := O12.out.size
          have hbn9 : bn < w12.heap.size := (Array.getElem?_eq_some_iff.1 N12.out).1
          go_upto_region 13 with (at_builtin; refine wpList_append_own_at _ rfl (.tmp 63) (.tmp 66) 25 rfl (w.heap.size + 2) 3 j0 _ 1 8 Tryz.underlying25 hj hy0 hy1 hy2 rfl (by decide) _ X.length (ivals X) rfl (O12.out.x.alloc _) _ 1 1 [.int .i64 xm] rfl rfl (World.news_of_block (heap_alloc_new _ _)) (by intro u hu; simp at hu; rw [hu]; rfl) (by unfold maxLen; omega) (by omega) (by simp; omega) ?_; intro v8 w9 hown8 hgrow8 hnil8 hat8; have O13 := hide (OM.appX (O12.out.below ((Below.refl _ _).alloc (Nat.le_refl _) _)) hown8 hgrow8 hat8); have N13 : Hid (w9.heap[bn]? = some (.cells #[.bool true, .int .i64 ym] 52 (0, 0))) := (hgrow8.block bn (by simp; omega) (fun e => (nvX bn e.symm) rfl)).trans ((((Below.refl _ _).alloc (Nat.le_refl _) _).block bn hbn9).trans N12.out); clear hown8 hgrow8 hnil8 hat8)
          clear s1 M12 N12 O12
          have t1 : w9.cell? ⟨bn, 1, none⟩ = some (.int .i64 ym) := cell_of_heap N13.out 1
          have hs13 := O13.out.size
          obtain ⟨x8, n8, c8, rfl⟩ := own_sl O13.out.x
          go_wp2_with (at_builtin; refine wpList_append_own_at _ rfl (.tmp 68) (.tmp 71) 25 rfl (w.heap.size + 2) 3 j0 _ 1 8 Tryz.underlying25 hj hy0 hy1 hy2 rfl (by decide) _ Y.length (ivals Y) rfl (O13.out.y.alloc _) _ 1 1 [.int .i64 ym] rfl rfl (World.news_of_block (heap_alloc_new _ _)) (by intro u hu; simp at hu; rw [hu]; rfl) (by unfold maxLen; omega) (by omega) (by simp; omega) ?_; intro v9 w14 hown9 hgrow9 hnil9 hat9; have O14 := hide (OM.appY (O13.out.below ((Below.refl _ _).alloc (Nat.le_refl _) _)) hown9 hgrow9 hat9); clear hown9 hgrow9 hnil9 hat9)
          obtain ⟨x9, n9, c9, rfl⟩ := own_sl O14.out.y
          go_roundw
          case rel => exact ⟨k + 1, by omega, by go_num, ⟨_, _, _, rfl⟩, ⟨_, _, _, rfl⟩, by rw [HXT.out, HYT.out]; exact O14⟩
          case measure => simp [intOf]; omega
    · have hlt' : ¬ (k : Int) < (va.length : Int) := by omega
      rw [List.take_of_length_le (by rw [HLA.out]; omega), List.take_of_length_le (by rw [HLB.out]; omega)] at O4
      obtain ⟨x7, c7, e7⟩ := ownS O4.out.x
      cases e7
      obtain ⟨x8, c8, e8⟩ := ownS O4.out.y
      cases e8
      have hKA := HLA.out
      have hKB := HLB.out
      generalize wr = wd at *
      go_wp2
      clear a3 b3
      go_loopw [10] (fun i wz => ∃ k : Nat, k ≤ KA.length ∧ i = .int .i64 k ∧ Hid (Below wd.heap.size wd wz) ∧ Hid (Pk.cmpL KA KB = Pk.cmpL (KA.drop k) (KB.drop k))) (fun i _ => KA.length - (intOf i).toNat)
      case atStart => exact ⟨0, by omega, rfl, Below.refl _ _, rfl⟩
      case round =>
        obtain ⟨k, hk, rfl, BZ, HC⟩ := hrel
        by_cases hlt : k < KA.length
        · have hlt' : (k : Int) < (KA.length : Int) := by omega
          have hltb : k < KB.length := by omega
          have O5 := hide (O4.out.below BZ.out)
          obtain ⟨g7, c7', e7⟩ : ∃ g c, Value.slice x5 KA.length c5 = .slice (some ⟨g, 0, none⟩) KA.length c := by
            rcases own_form O5.out.x with ⟨_, h2⟩ | ⟨g, c, h1⟩
            · omega
            · exact ⟨g, c, h1⟩
          cases e7
          obtain ⟨g8, c8', e8⟩ : ∃ g c, Value.slice x6 KB.length c6 = .slice (some ⟨g, 0, none⟩) KB.length c := by
            rcases own_form O5.out.y with ⟨_, h2⟩ | ⟨g, c, h1⟩
            · omega
            · exact ⟨g, c, h1⟩
          cases e8
          have d0 := RdG.cell (RdG.ofOwn O5.out.x) k (.int .i64 KA[k]) (by simp [ivals, hlt])
          have d1 := RdG.cell (RdG.ofOwn O5.out.y) k (.int .i64 KB[k]) (by simp [ivals, hltb])
          rw [Nat.zero_add] at d0 d1
          have HD := hide (cmp_drop KA KB k hlt hltb)
          have hltb' : (k : Int) < (KB.length : Int) := by omega
          generalize KA[k] = m at *
          generalize KB[k] = n at *
          by_cases h1 : m < n
          · go_wp2
            go_quiet (fail)
            go_wp2
            go_ret
            exact ⟨by rw [HC.out, HD.out, if_pos (by omega)]; rfl, O5.out.k.bl.trans (below_drewM (Below.refl _ _) _)⟩
          · by_cases h2 : n < m
            · go_wp2
              go_quiet (fail)
              go_wp2
              go_quiet (fail)
              go_wp2
              go_ret
              exact ⟨by rw [HC.out, HD.out, if_neg (by omega), if_pos (by omega)]; rfl, O5.out.k.bl.trans (below_drewM (below_drewM (Below.refl _ _) _) _)⟩
            · go_wp2
              go_quiet (fail)
              go_wp2
              go_quiet (fail)
              go_wp2
              go_roundw
              case rel => exact ⟨k + 1, by omega, by go_num, below_drewM BZ.out _, by show _ = _; rw [HC.out, HD.out, if_neg (by omega), if_neg (by omega)]⟩
              case measure => simp [intOf]; omega
        · have hlt' : ¬ (k : Int) < (KA.length : Int) := by omega
          have HZ : Hid (Pk.cmpL KA KB = 0) := by
            show _ = _
            rw [HC.out, List.drop_eq_nil_of_le (by omega), List.drop_eq_nil_of_le (by omega)]
            rfl
          have O5 := hide (O4.out.below BZ.out)
          go_wp2
          go_ret
          exact ⟨by rw [HZ.out]; rfl, O5.out.k.bl⟩
end Go.Proofs.YtcoofnhdbejnpaaGreatDoor

/- Package paneskeep: proper. -/
namespace Go.Proofs.YtcoofnhdbejnpaaGreatDoor
open Go.RowKit
/-- a list of out rows as there may be -/
structure Prop9 (n : Nat) (l : List Pv.Out) : Prop where
  srt : Pv.SrtO l
  nz : ∀ x ∈ l, x.2.2 ≠ 0
  len : ∀ x ∈ l, x.2.1.length = n
  vb : ∀ x ∈ l, Pk.VB x.2.1
  bd : ∀ x ∈ l, -1000000 ≤ x.2.2 ∧ x.2.2 ≤ 1000000
set_option maxRecDepth 100000 in
set_option maxHeartbeats 4000000 in
theorem proper_any {w : World} {l : List Pv.Out} {v : Value} {n : Nat} (hv : RdO w v l) (hlen : l.length ≤ 1000000) (hp : Prop9 n l) (hn : n ≤ 1000) :
    Calls Tryz.prog 25 #[v, .int .i64 n] w fun e w' => e = .returned (.bool true) ∧ Below w.heap.size w w' := by
  obtain ⟨x6, c6, rfl⟩ := hv.sl
  have HV := hide hv
  have HP := hide hp
  clear hv hp
  go_enter Tryz.func25, Tryz.ntmps25
  go_wp2
  go_loopw [5] (fun i wr => ∃ k : Nat, k ≤ l.length ∧ i = .int .i64 k ∧ Hid (Below w.heap.size w wr)) (fun i _ => l.length - (intOf i).toNat)
  case atStart => exact ⟨0, by omega, rfl, Below.refl _ _⟩
  case round =>
    obtain ⟨k, hk, rfl, B1⟩ := hrel
    by_cases hkl : k < l.length
    · have hkl' : (k : Int) < (l.length : Int) := by omega
      have R1 := hide (HV.out.below B1.out)
      obtain ⟨g6, off6, c6', e6, hc6⟩ := R1.out.form1 (by omega)
      cases e6
      obtain ⟨xk, ck, hrd, k0, k1, k2, k3, k4⟩ := R1.out.cell k hkl
      have hvl := HP.out.len _ (List.getElem_mem hkl)
      rw [hvl] at hrd k3
      have hz : (l[k].2.2 == 0) = false := by rw [beq_eq_false_iff_ne]; exact HP.out.nz _ (List.getElem_mem hkl)
      have HRD := hide hrd
      clear hrd
      generalize wr = wa at *
      go_upto_region 6 with fail
      go_wp2
      go_loop [6] (fun i => ∃ j : Nat, j ≤ n ∧ i = .int .i64 j) (fun i => n - (intOf i).toNat)
      case atStart => exact ⟨0, by omega, rfl⟩
      case round =>
        obtain ⟨j, hj, rfl⟩ := hrel
        by_cases hjl : j < n
        · have hjl' : (j : Int) < (n : Int) := by omega
          obtain ⟨g7, off7, c7', e7, _⟩ := RdG.form1 HRD.out (by omega)
          rw [hvl] at e7
          cases e7
          obtain ⟨d0, d1⟩ := RdV.cell HRD.out j (by omega)
          cases hq : l[k].2.1[j]'(by omega)
          · rw [hq] at d0 d1
            simp only [Option.isSome, Option.getD] at d0 d1
            go_wp2
            go_round
            case rel => exact ⟨j + 1, by omega, by go_num⟩
            case measure => simp [intOf]; omega
          · rw [hq] at d0 d1
            simp only [Option.isSome, Option.getD] at d0 d1
            go_wp2
            go_round
            case rel => exact ⟨j + 1, by omega, by go_num⟩
            case measure => simp [intOf]; omega
        · have hjl' : ¬ (j : Int) < (n : Int) := by omega
          by_cases hk0 : k = 0
          · subst hk0
            go_wp2
            go_roundw
            case rel => exact ⟨1, by omega, by go_num, B1⟩
            case measure => simp [intOf]; omega
          · have hk0' : (0 : Int) < (k : Int) := by omega
            have hk1 : k - 1 < l.length := by omega
            have hkw : IntKind.i64.wrap ((k : Int) - 1) = ((k - 1 : Nat) : Int) := by rw [wrap_id2 (by omega) (by omega)]; omega
            have hkc : ((k - 1 : Nat) : Int) < (l.length : Int) := by omega
            obtain ⟨xq, cq, hrq, q0, q1, q2, q3, q4⟩ := R1.out.cell (k - 1) hk1
            have hvq := HP.out.len _ (List.getElem_mem hk1)
            rw [hvq] at hrq q3
            have HRQ := hide hrq
            clear hrq
            go_upto_region 12 with fail
            go_still_tail 9, (by kernel_rfl)
            go_wp2_with fail
            refine (order_any l[k - 1] l[k] (HRQ.out.below (below_drew0 _)) (HRD.out.below (below_drew0 _)) (by rw [hvq, hvl]) (by omega)).mono ?_
            rintro e wz ⟨rfl, bz⟩
            replace bz := undrew bz
            have hcm : Pk.cmpL (Pk.keyL l[k - 1]) (Pk.keyL l[k]) < 0 := (Pk.cmp_low (by rw [hvq, hvl]) (HP.out.vb _ (List.getElem_mem hk1)) (HP.out.vb _ (List.getElem_mem hkl))).2.2 ((List.pairwise_iff_getElem.1 HP.out.srt) (k - 1) k hk1 hkl (by omega))
            generalize Pk.cmpL (Pk.keyL l[k - 1]) (Pk.keyL l[k]) = cc at *
            have BZ := hide (B1.out.trans (bz.mono B1.out.size))
            have hcc : ¬ (0 : Int) ≤ cc := by omega
            clear bz q0 q1 q2 q3 q4 k0 k1 k2 k3 k4
            go_wp2
            go_roundw
            case rel => exact ⟨k + 1, by omega, by go_num, BZ⟩
            case measure => simp [intOf]; omega
    · have hkl' : ¬ (k : Int) < (l.length : Int) := by omega
      go_wp2
      go_ret
      exact ⟨rfl, B1.out⟩
end Go.Proofs.YtcoofnhdbejnpaaGreatDoor

