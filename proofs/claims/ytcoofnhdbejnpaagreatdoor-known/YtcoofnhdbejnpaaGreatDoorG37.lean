/- Package outs: compareValues, compare. -/
import Derived.Test.YtcoofnhdbejnpaaGreatDoorG05
import Derived.Test.YtcoofnhdbejnpaaGreatDoorG22
import Derived.Test.YtcoofnhdbejnpaaGreatDoorG28
import Derived.Test.YtcoofnhdbejnpaaGreatDoorG29
namespace Go.Proofs.YtcoofnhdbejnpaaGreatDoor
open Go.RowKit
namespace Pv
/-- the order of two values that differ -/
def cvF : Val → Val → Int
  | none, some _ => -1
  | some _, none => 1
  | none, none => 1
  | some a, some b => if a < b then -1 else 1
/-- the order of two lists of values -/
def cmpV : List Val → List Val → Int
  | x :: a, y :: b => if x = y then cmpV a b else cvF x y
  | _, _ => 0
def cmpF (a b : Out) : Int := if lower a.1 b.1 then -1 else if lower b.1 a.1 then 1 else cmpV a.2.1 b.2.1
theorem cmpV_is : ∀ (a b : List Val), a.length = b.length → cmpV a b = if valsLow a b = true then -1 else if a = b then 0 else 1
  | [], [], _ => by simp [cmpV, valsLow]
  | [], _ :: _, h => by simp at h
  | _ :: _, [], h => by simp at h
  | none :: a, none :: b, h => by
    have ih := cmpV_is a b (by simpa using h)
    simp only [cmpV, if_true, valsLow, List.cons.injEq, true_and]; exact ih
  | none :: a, some y :: b, _ => by simp [cmpV, valsLow, cvF]
  | some x :: a, none :: b, _ => by simp [cmpV, valsLow, cvF]
  | some x :: a, some y :: b, h => by
    have ih := cmpV_is a b (by simpa using h)
    by_cases e : x = y
    · subst e
      simp only [cmpV, if_true, valsLow, List.cons.injEq, true_and]; exact ih
    · have e2 : ¬ (some x : Val) = some y := fun q => e (Option.some.inj q)
      have e3 : ¬ (some x :: a) = (some y :: b) := fun q => e2 (List.cons.inj q).1
      simp only [cmpV, if_neg e2, valsLow, if_neg e, cvF, if_neg e3, decide_eq_true_eq]
theorem cmpF_is (a b : Out) (h : a.2.1.length = b.2.1.length) : cmpF a b = if lowO a b = true then -1 else if keyO a = keyO b then 0 else 1 := by
  unfold cmpF
  have hiff := lowO_iff a b
  by_cases h1 : lower a.1 b.1 = true
  · rw [if_pos h1, if_pos (hiff.2 (.inl h1))]
  · rw [if_neg h1]
    by_cases h2 : lower b.1 a.1 = true
    · have hne : a.1 ≠ b.1 := fun e => by rw [e, lower_irr] at h2; cases h2
      have hl : ¬ lowO a b = true := fun q => by
        rcases hiff.1 q with q | q
        · exact h1 q
        · exact hne q.1
      rw [if_pos h2, if_neg hl, if_neg (show ¬ keyO a = keyO b from fun e => hne (Prod.ext_iff.1 e).1)]
    · have e : a.1 = b.1 := Classical.byContradiction fun hne => by
        rcases lower_tot hne with q | q
        · exact h1 q
        · exact h2 q
      rw [if_neg h2, cmpV_is _ _ h]
      have hl : lowO a b = true ↔ valsLow a.2.1 b.2.1 = true := by
        rw [hiff, e, lower_irr]; simp
      have hk : keyO a = keyO b ↔ a.2.1 = b.2.1 := ⟨fun q => (Prod.ext_iff.1 q).2, fun q => Prod.ext e q⟩
      simp only [hl, hk]
theorem cmpF_bd (a b : Out) : -1 ≤ cmpF a b ∧ cmpF a b ≤ 1 := by
  have hcv : ∀ x y : Val, -1 ≤ cvF x y ∧ cvF x y ≤ 1 := fun x y => by
    cases x <;> cases y <;> simp [cvF]
    split <;> omega
  have hv : ∀ a b : List Val, -1 ≤ cmpV a b ∧ cmpV a b ≤ 1 := by
    intro a
    induction a with
    | nil => intro b; simp [cmpV]
    | cons x a ih =>
      intro b
      cases b with
      | nil => simp [cmpV]
      | cons y b =>
        rw [cmpV]
        split
        · exact ih b
        · exact hcv x y
  unfold cmpF
  split
  · omega
  · split
    · omega
    · exact hv _ _
theorem cmpV_drop (a b : List Val) (k : Nat) (ha : k < a.length) (hb : k < b.length) : cmpV (a.drop k) (b.drop k) = if a[k] = b[k] then cmpV (a.drop (k + 1)) (b.drop (k + 1)) else cvF a[k] b[k] := by
  rw [List.drop_eq_getElem_cons ha, List.drop_eq_getElem_cons hb, cmpV]
theorem cmpV_end (a b : List Val) (k : Nat) (ha : a.length ≤ k) : cmpV (a.drop k) (b.drop k) = 0 := by
  rw [List.drop_eq_nil_of_le ha]
  simp [cmpV]
end Pv
set_option maxHeartbeats 1000000 in
theorem cmpValues_any (x y : Pv.Val) (w : World) : Calls Tryz.prog 138 #[.agg #[.bool x.isSome, .int .i64 (x.getD 0)], .agg #[.bool y.isSome, .int .i64 (y.getD 0)]] w fun e w' => e = .returned (.int .i64 (Pv.cvF x y)) ∧ Below w.heap.size w w' := by
  cases x with
  | none =>
    cases y with
    | none =>
      simp only [Option.isSome_none, Option.getD_none]
      go_enter Tryz.func138, Tryz.ntmps138
      go_wp2
      go_ret
      exact ⟨rfl, ((Below.refl _ _).alloc (Nat.le_refl _) _).alloc (by simp) _⟩
    | some b =>
      simp only [Option.isSome_none, Option.getD_none, Option.isSome_some, Option.getD_some]
      go_enter Tryz.func138, Tryz.ntmps138
      go_wp2
      go_ret
      exact ⟨rfl, ((Below.refl _ _).alloc (Nat.le_refl _) _).alloc (by simp) _⟩
  | some a =>
    cases y with
    | none =>
      simp only [Option.isSome_none, Option.getD_none, Option.isSome_some, Option.getD_some]
      go_enter Tryz.func138, Tryz.ntmps138
      go_wp2
      go_ret
      exact ⟨rfl, ((Below.refl _ _).alloc (Nat.le_refl _) _).alloc (by simp) _⟩
    | some b =>
      simp only [Option.isSome_some, Option.getD_some]
      by_cases h : a < b
      · have H : Hid (Pv.cvF (some a) (some b) = -1) := by show _ = _; simp [Pv.cvF, h]
        go_enter Tryz.func138, Tryz.ntmps138
        go_wp2
        go_ret
        exact ⟨by rw [H.out]; rfl, ((Below.refl _ _).alloc (Nat.le_refl _) _).alloc (by simp) _⟩
      · have H : Hid (Pv.cvF (some a) (some b) = 1) := by show _ = _; simp [Pv.cvF, h]
        go_enter Tryz.func138, Tryz.ntmps138
        go_wp2
        go_ret
        exact ⟨by rw [H.out]; rfl, ((Below.refl _ _).alloc (Nat.le_refl _) _).alloc (by simp) _⟩
set_option maxRecDepth 100000 in
set_option maxHeartbeats 4000000 in
theorem compare_any {w : World} (a b : Pv.Out) {sa sb : Value} (ha : RdV w sa a.2.1) (hb : RdV w sb b.2.1) (hlab : a.2.1.length = b.2.1.length) (hla : a.2.1.length ≤ 1000) :
    Calls Tryz.prog 103 #[.agg #[.int .i64 a.1.1, .int .i64 a.1.2.1, .int .i64 a.1.2.2, sa, .int .i64 a.2.2], .agg #[.int .i64 b.1.1, .int .i64 b.1.2.1, .int .i64 b.1.2.2, sb, .int .i64 b.2.2]] w fun e w' => e = .returned (.int .i64 (Pv.cmpF a b)) ∧ Below w.heap.size w w' := by
  have HA := hide ha
  have HB := hide hb
  obtain ⟨xa, ca, rfl⟩ := RdG.sl ha
  obtain ⟨xb, cb, rfl⟩ := RdG.sl hb
  have HLAB := hide hlab
  clear ha hb hlab
  have HCF : Hid (Pv.cmpF a b = if Pv.lower (a.1.1, a.1.2.1, a.1.2.2) (b.1.1, b.1.2.1, b.1.2.2) then -1 else if Pv.lower (b.1.1, b.1.2.1, b.1.2.2) (a.1.1, a.1.2.1, a.1.2.2) then 1 else Pv.cmpV a.2.1 b.2.1) := rfl
  go_enter Tryz.func103, Tryz.ntmps103
  go_upto_region 1 with fail
  have C0 := hide (K2.start w #[.int .i64 a.1.1, .int .i64 a.1.2.1, .int .i64 a.1.2.2, .slice xa a.2.1.length ca, .int .i64 a.2.2] 55 #[.int .i64 b.1.1, .int .i64 b.1.2.1, .int .i64 b.1.2.2, .slice xb b.2.1.length cb, .int .i64 b.2.2] 55)
  generalize ((w.alloc (.cells #[.int .i64 a.1.1, .int .i64 a.1.2.1, .int .i64 a.1.2.2, .slice xa a.2.1.length ca, .int .i64 a.2.2] 55)).alloc (.cells #[.int .i64 b.1.1, .int .i64 b.1.2.1, .int .i64 b.1.2.2, .slice xb b.2.1.length cb, .int .i64 b.2.2] 55)) = w0 at *
  have HX : ∀ wx, Hid (Below w0.heap.size w0 wx → Below w.heap.size w wx ∧ wx.cell? ⟨w.heap.size, 0, none⟩ = some (.int .i64 a.1.1) ∧ wx.cell? ⟨w.heap.size, 1, none⟩ = some (.int .i64 a.1.2.1) ∧ wx.cell? ⟨w.heap.size, 2, none⟩ = some (.int .i64 a.1.2.2) ∧ wx.cell? ⟨w.heap.size, 3, none⟩ = some (.slice xa a.2.1.length ca) ∧ wx.cell? ⟨w.heap.size + 1, 0, none⟩ = some (.int .i64 b.1.1) ∧ wx.cell? ⟨w.heap.size + 1, 1, none⟩ = some (.int .i64 b.1.2.1) ∧ wx.cell? ⟨w.heap.size + 1, 2, none⟩ = some (.int .i64 b.1.2.2) ∧ wx.cell? ⟨w.heap.size + 1, 3, none⟩ = some (.slice xb b.2.1.length cb)) := fun wx hb => by
    have C1 := C0.out.below hb
    exact ⟨C1.bl, cell_of_heap C1.a 0, cell_of_heap C1.a 1, cell_of_heap C1.a 2, cell_of_heap C1.a 3, cell_of_heap C1.b 0, cell_of_heap C1.b 1, cell_of_heap C1.b 2, cell_of_heap C1.b 3⟩
  obtain ⟨bw, a0, a1, a2, a3, b0, b1, b2, b3⟩ := (HX _).out (Below.refl _ _)
  clear bw
  go_wp2_with fail
  refine (isAhead_any _ _ _ _ _ _ _).mono ?_
  rintro e w1 ⟨rfl, e1⟩
  have B1 := hide e1
  clear e1 a0 a1 a2 a3 b0 b1 b2 b3
  obtain ⟨bw, a0, a1, a2, a3, b0, b1, b2, b3⟩ := (HX _).out B1.out
  have BW1 := hide bw
  clear bw
  cases h1 : Pv.lower (a.1.1, a.1.2.1, a.1.2.2) (b.1.1, b.1.2.1, b.1.2.2)
  · rw [h1, if_neg (by simp)] at HCF
    go_wp2_with fail
    refine (isAhead_any _ _ _ _ _ _ _).mono ?_
    rintro e w2 ⟨rfl, e2⟩
    have B2 := hide (B1.out.trans (e2.mono B1.out.size))
    clear e2 a0 a1 a2 a3 b0 b1 b2 b3
    obtain ⟨bw, a0, a1, a2, a3, b0, b1, b2, b3⟩ := (HX _).out B2.out
    have BW2 := hide bw
    clear bw
    cases h2 : Pv.lower (b.1.1, b.1.2.1, b.1.2.2) (a.1.1, a.1.2.1, a.1.2.2)
    · rw [h2, if_neg (by simp)] at HCF
      clear a0 a1 a2 a3 b0 b1 b2 b3
      go_wp2_with fail
      go_loopw [5] (fun i wr => ∃ k : Nat, k ≤ a.2.1.length ∧ i = .int .i64 k ∧ Below w0.heap.size w0 wr ∧ Hid (Pv.cmpF a b = Pv.cmpV (a.2.1.drop k) (b.2.1.drop k))) (fun i _ => a.2.1.length - (intOf i).toNat)
      case atStart => exact ⟨0, by omega, rfl, B2.out, HCF.out⟩
      case round =>
        obtain ⟨k, hk, rfl, hb, HN⟩ := hrel
        have B3 := hide hb
        clear hb
        obtain ⟨bw, a0, a1, a2, a3, b0, b1, b2, b3⟩ := (HX _).out B3.out
        have BW3 := hide bw
        clear bw a0 a1 a2 b0 b1 b2
        by_cases hlt : k < a.2.1.length
        · have hltb : k < b.2.1.length := by have := HLAB.out; omega
          have hlt' : (k : Int) < (a.2.1.length : Int) := by omega
          have hltb' : (k : Int) < (b.2.1.length : Int) := by omega
          obtain ⟨ga, oa, capa, e, _⟩ := RdG.form1 HA.out (by omega)
          cases e
          obtain ⟨gb, ob, capb, e, _⟩ := RdG.form1 HB.out (by omega)
          cases e
          have HS := hide (Pv.cmpV_drop a.2.1 b.2.1 k hlt hltb)
          obtain ⟨c0, c1⟩ := (HA.out.below BW3.out).cell k hlt
          obtain ⟨d0, d1⟩ := (HB.out.below BW3.out).cell k hltb
          by_cases hxy : a.2.1[k] = b.2.1[k]
          · rw [if_pos hxy] at HS
            rw [← hxy] at d0 d1
            clear hxy
            generalize a.2.1[k].isSome = s1 at *
            generalize a.2.1[k].getD 0 = s2 at *
            go_wp2
            go_quiet (fail)
            go_wp2
            go_roundw
            case rel => exact ⟨k + 1, by omega, by go_num, below_drewM B3.out _, HN.out.trans HS.out⟩
            case measure => simp [intOf]; omega
          · rw [if_neg hxy] at HS
            have hc : (a.2.1[k].isSome == b.2.1[k].isSome) = false ∨ ((a.2.1[k].isSome == b.2.1[k].isSome) = true ∧ (a.2.1[k].getD 0 == b.2.1[k].getD 0) = false) := by
              by_cases q1 : a.2.1[k].isSome = b.2.1[k].isSome
              · right
                refine ⟨by simp [q1], ?_⟩
                rw [beq_eq_false_iff_ne]
                exact fun q2 => hxy (val_eq q1 q2)
              · left; simpa using q1
            have HCV : ∀ W, Hid (Calls Tryz.prog 138 #[.agg #[.bool a.2.1[k].isSome, .int .i64 (a.2.1[k].getD 0)], .agg #[.bool b.2.1[k].isSome, .int .i64 (b.2.1[k].getD 0)]] W fun e w' => e = .returned (.int .i64 (Pv.cvF a.2.1[k] b.2.1[k])) ∧ Below W.heap.size W w') := fun W => cmpValues_any _ _ W
            clear hxy
            generalize Pv.cvF a.2.1[k] b.2.1[k] = rr at *
            have HVA : ∀ wx, Hid (Below w0.heap.size w0 wx → wx.cell? ⟨ga, oa + k * 2, none⟩ = some (.bool a.2.1[k].isSome) ∧ wx.cell? ⟨ga, oa + k * 2 + 1, none⟩ = some (.int .i64 (a.2.1[k].getD 0)) ∧ wx.cell? ⟨gb, ob + k * 2, none⟩ = some (.bool b.2.1[k].isSome) ∧ wx.cell? ⟨gb, ob + k * 2 + 1, none⟩ = some (.int .i64 (b.2.1[k].getD 0))) := fun wx hb => by
              have hw := ((HX _).out hb).1
              obtain ⟨c0, c1⟩ := (HA.out.below hw).cell k hlt
              obtain ⟨d0, d1⟩ := (HB.out.below hw).cell k hltb
              exact ⟨c0, c1, d0, d1⟩
            generalize a.2.1[k].isSome = s1 at *
            generalize a.2.1[k].getD 0 = s2 at *
            generalize b.2.1[k].isSome = t1 at *
            generalize b.2.1[k].getD 0 = t2 at *
            rcases hc with q1 | ⟨q1, q2⟩
            all_goals
              go_wp2
              go_quiet (fail)
              have B5 : Hid (Below w0.heap.size w0 (wr.drewN nq)) := below_drewM B3.out nq
              clear a3 b3 c0 c1 d0 d1 BW3
              generalize wr.drewN nq = w5 at *
              obtain ⟨bw, a0, a1, a2, a3, b0, b1, b2, b3⟩ := (HX _).out B5.out
              clear bw a0 a1 a2 b0 b1 b2
              obtain ⟨c0, c1, d0, d1⟩ := (HVA _).out B5.out
              go_upto_region 9 with fail
              go_still_tail 10, (by kernel_rfl)
              go_wp2_with fail
              refine ((HCV _).out).mono ?_
              rintro e w6 ⟨rfl, e6⟩
              replace e6 := undrew e6
              have BW6 := hide ((HX _).out (B5.out.trans (e6.mono B5.out.size))).1
              clear a3 b3 c0 c1 d0 d1 e6
              go_wp2
              go_ret
              exact ⟨by rw [HN.out, HS.out]; rfl, BW6.out⟩
        · have hltb : b.2.1.length = k := by have := HLAB.out; omega
          have hak : a.2.1.length = k := by omega
          have hlt' : ¬ (k : Int) < (a.2.1.length : Int) := by omega
          have HR : Hid (Pv.cmpF a b = 0) := HN.out.trans (Pv.cmpV_end _ _ k (by omega))
          rw [hltb] at b3
          rw [hak] at a3
          have hkk : ¬ (k : Int) < (k : Int) := by omega
          go_wp2
          go_ret
          exact ⟨by rw [HR.out]; first | rfl | simp, BW3.out⟩
    · rw [h2, if_pos rfl] at HCF
      go_wp2
      go_ret
      exact ⟨by rw [HCF.out]; rfl, BW2.out⟩
  · rw [h1, if_pos rfl] at HCF
    go_wp2
    go_ret
    exact ⟨by rw [HCF.out]; rfl, BW1.out⟩
end Go.Proofs.YtcoofnhdbejnpaaGreatDoor

/- Package outs: withNumber. -/
namespace Go.Proofs.YtcoofnhdbejnpaaGreatDoor
open Go.RowKit
/-- an out row with values of its own, as it is made -/
structure NW (w wy : World) (bx : Array Value) (p u v m : Int) (s : Value) (vals : List Pv.Val) : Prop where
  box : Blk wy w.heap.size bx 55
  res : Blk wy (w.heap.size + 1) #[.int .i64 0, .int .i64 0, .int .i64 0, .slice none 0 0, .int .i64 0] 55
  own : Blk wy (w.heap.size + 1 + 1) #[.int .i64 p, .int .i64 u, .int .i64 v, s, .int .i64 m] 55
  vs : wy.ownsRow (w.heap.size + 1 + 1 + 1) 52 2 s vals.length (rvals vals)
  bl : Below w.heap.size w wy
theorem NW.below {w wy w1 : World} {bx : Array Value} {p u v m : Int} {s : Value} {vals : List Pv.Val} (h : NW w wy bx p u v m s vals) (hb : Below wy.heap.size wy w1) : NW w w1 bx p u v m s vals :=
  ⟨h.box.below hb, h.res.below hb, h.own.below hb, own_below h.vs hb, h.bl.trans (hb.mono h.bl.size)⟩
theorem NW.push {w wy W w8 : World} {bx : Array Value} {p u v m : Int} {s s8 : Value} {vals : List Pv.Val} {x : Pv.Val} (h : NW w wy bx p u v m s vals) (hW : Below wy.heap.size wy W) (hg : W.grownBy w8 s.ownBlock) (h8 : w8.ownsRow (w.heap.size + 1 + 1 + 1) 52 2 s8 (vals.length + 1) (rvals vals ++ vc x)) :
    Blk w8 (w.heap.size + 1 + 1) #[.int .i64 p, .int .i64 u, .int .i64 v, s, .int .i64 m] 55 ∧ NW w (w8.setCell ⟨w.heap.size + 1 + 1, 3, none⟩ s8) bx p u v m s8 (vals ++ [x]) := by
  have h1 := h.below hW
  have n1 : ∀ k, s.ownBlock = some k → w.heap.size + 1 + 1 + 1 ≤ k := fun k hk => (h.vs.lt k hk).1
  have hb : Blk w8 (w.heap.size + 1 + 1) #[.int .i64 p, .int .i64 u, .int .i64 v, s, .int .i64 m] 55 := by
    unfold Blk
    rw [hg.block _ (Array.getElem?_eq_some_iff.1 h1.own).1 (fun e => by have := n1 _ e.symm; omega)]
    exact h1.own
  refine ⟨hb, ⟨?_, ?_, set53 hb s8, ?_, ?_⟩⟩
  · unfold Blk
    rw [set_far _ _ _ _ _ (by omega), hg.block _ (Array.getElem?_eq_some_iff.1 h1.box).1 (fun e => by have := n1 _ e.symm; omega)]
    exact h1.box
  · unfold Blk
    rw [set_far _ _ _ _ _ (by omega), hg.block _ (Array.getElem?_eq_some_iff.1 h1.res).1 (fun e => by have := n1 _ e.symm; omega)]
    exact h1.res
  · rw [rvals_snoc, List.length_append]
    refine h8.kept (grown_set w8 _ 3 _) ?_
    cases hs : s8.ownBlock with
    | none => exact .inl rfl
    | some k => exact .inr (fun e => by cases e; have := (h8.lt _ hs).1; omega)
  · exact (h1.bl.grown hg (Nat.le_of_lt (by have := (Array.getElem?_eq_some_iff.1 h1.box).1; omega)) (fun k hk => by have := n1 k hk; omega)).setCell (p := ⟨w.heap.size + 1 + 1, 3, none⟩) (by simp; omega) _
theorem vals_snoc (vals : List Pv.Val) (k : Nat) (h : k < vals.length) : vals.take (k + 1) = vals.take k ++ [vals[k]] := List.take_succ_eq_append_getElem h
set_option maxRecDepth 100000 in
set_option maxHeartbeats 4000000 in
theorem withNumber_any {w : World} (o : Pv.Out) {so : Value} (hs : RdV w so o.2.1) (hl : o.2.1.length ≤ 1000) (m : Int) :
    Calls Tryz.prog 82 #[.agg #[.int .i64 o.1.1, .int .i64 o.1.2.1, .int .i64 o.1.2.2, so, .int .i64 o.2.2], .int .i64 m] w fun e w' => Below w.heap.size w w' ∧ ∃ x n c, e = .returned (.agg #[.int .i64 o.1.1, .int .i64 o.1.2.1, .int .i64 o.1.2.2, .slice x n c, .int .i64 m]) ∧ w'.ownsRow w.heap.size 52 2 (.slice x n c) o.2.1.length (rvals o.2.1) := by
  obtain ⟨i0, hin, hz0, hz1, hz2⟩ := info_parts infoVal
  have HS := hide hs
  obtain ⟨xo, co, rfl⟩ := RdG.sl hs
  clear hs
  go_enter Tryz.func82, Tryz.ntmps82
  go_upto_region 2 with fail
  have C0 := hide (K3.start w #[.int .i64 o.1.1, .int .i64 o.1.2.1, .int .i64 o.1.2.2, .slice xo o.2.1.length co, .int .i64 o.2.2] 55 #[.int .i64 0, .int .i64 0, .int .i64 0, .slice none 0 0, .int .i64 0] 55 #[.int .i64 o.1.1, .int .i64 o.1.2.1, .int .i64 o.1.2.2, .slice none 0 0, .int .i64 m] 55)
  generalize (((w.alloc (.cells #[.int .i64 o.1.1, .int .i64 o.1.2.1, .int .i64 o.1.2.2, .slice xo o.2.1.length co, .int .i64 o.2.2] 55)).alloc (.cells #[.int .i64 0, .int .i64 0, .int .i64 0, .slice none 0 0, .int .i64 0] 55)).alloc (.cells #[.int .i64 o.1.1, .int .i64 o.1.2.1, .int .i64 o.1.2.2, .slice none 0 0, .int .i64 m] 55)) = w0 at *
  go_wp2_with fail
  go_loopw [6] (fun r wr => ∃ k : Nat, k ≤ o.2.1.length ∧ r = .int .i64 k ∧ ∃ x n c, NW w wr #[.int .i64 o.1.1, .int .i64 o.1.2.1, .int .i64 o.1.2.2, .slice xo o.2.1.length co, .int .i64 o.2.2] o.1.1 o.1.2.1 o.1.2.2 m (.slice x n c) (o.2.1.take k)) (fun r _ => o.2.1.length - (intOf r).toNat)
  case atStart => exact ⟨0, by omega, rfl, none, 0, 0, C0.out.a, C0.out.b, C0.out.c, World.ownsRow_nil _ _ _ _, C0.out.bl⟩
  case round =>
    obtain ⟨k, hk, rfl, x, n, c, how⟩ := hrel
    have O1 := hide how
    clear how
    have b3 : wr.cell? ⟨w.heap.size, 3, none⟩ = some (.slice xo o.2.1.length co) := O1.out.box.cell 3
    have o3 : wr.cell? ⟨w.heap.size + 1 + 1, 3, none⟩ = some (.slice x n c) := O1.out.own.cell 3
    have hsz : w.heap.size + 1 + 1 < wr.heap.size := (Array.getElem?_eq_some_iff.1 O1.out.own).1
    by_cases hlt : k < o.2.1.length
    · have hlt' : (k : Int) < (o.2.1.length : Int) := by omega
      obtain ⟨gv, ov, capv, e, _⟩ := RdG.form1 HS.out (by omega)
      cases e
      obtain ⟨c0, c1⟩ := (HS.out.below O1.out.bl).cell k hlt
      have HT := hide (vals_snoc o.2.1 k hlt)
      have hvl : (o.2.1.take k).length = k := by rw [List.length_take]; omega
      have oa : (wr.alloc (.cells #[.bool o.2.1[k].isSome, .int .i64 (o.2.1[k].getD 0)] 52)).cell? ⟨w.heap.size + 1 + 1, 3, none⟩ = some (.slice x n c) := by
        rw [((Below.refl wr.heap.size wr).alloc (Nat.le_refl _) _).cell (p := ⟨w.heap.size + 1 + 1, 3, none⟩) (by show w.heap.size + 1 + 1 < wr.heap.size; omega)]
        exact o3
      generalize o.2.1[k] = vx at *
      generalize o.2.1.take k = vsl at *
      have hvb : vsl.length ≤ 1000 := by omega
      clear hvl
      go_upto_region 5 with fail
      go_region_law (refine step_append_lies _ rfl (.tmp 19) (.tmp 25) 34 rfl (w.heap.size + 1 + 1 + 1) 52 i0 _ 2 16 Tryz.underlying34 hin hz0 hz1 hz2 rfl (by decide) _ vsl.length (rvals vsl) rfl (O1.out.vs.alloc _).drew _ 1 1 (vc vx) rfl rfl (World.news_of_block (heap_alloc_new _ _)) (vc_one vx) (by decide) (by unfold maxLen; omega) (by omega) (by simp; omega) _ rfl ?_; intro g6 cap6 w6 hown6 hgrow6 hat6 hlt6; obtain ⟨hb6, PW6⟩ := O1.out.push (below_dB ((Below.refl _ _).alloc (Nat.le_refl _) _)) hgrow6 hown6; have y0 : w6.cell? ⟨w.heap.size + 1 + 1, 3, none⟩ = some (.slice x n c) := hb6.cell 3; have z0 := free_of_heap hb6 3; have HPW := hide PW6; clear hb6 PW6 hown6 hgrow6 hat6 hlt6)
      all_goals
        go_wp2
        go_roundw
        case rel => exact ⟨k + 1, by omega, by go_num, _, _, _, by rw [HT.out]; exact HPW.out⟩
        case measure => simp [intOf]; omega
    · have hlt' : ¬ (k : Int) < (o.2.1.length : Int) := by omega
      obtain rfl : k = o.2.1.length := by omega
      rw [List.take_length] at O1
      have a0 : wr.cell? ⟨w.heap.size + 1 + 1, 0, none⟩ = some (.int .i64 o.1.1) := O1.out.own.cell 0
      have a1 : wr.cell? ⟨w.heap.size + 1 + 1, 1, none⟩ = some (.int .i64 o.1.2.1) := O1.out.own.cell 1
      have a2 : wr.cell? ⟨w.heap.size + 1 + 1, 2, none⟩ = some (.int .i64 o.1.2.2) := O1.out.own.cell 2
      have a4 : wr.cell? ⟨w.heap.size + 1 + 1, 4, none⟩ = some (.int .i64 m) := O1.out.own.cell 4
      have r0 : wr.cell? ⟨w.heap.size + 1, 0, none⟩ = some (.int .i64 0) := O1.out.res.cell 0
      have r1 : wr.cell? ⟨w.heap.size + 1, 1, none⟩ = some (.int .i64 0) := O1.out.res.cell 1
      have r2 : wr.cell? ⟨w.heap.size + 1, 2, none⟩ = some (.int .i64 0) := O1.out.res.cell 2
      have r3 : wr.cell? ⟨w.heap.size + 1, 3, none⟩ = some (.slice none 0 0) := O1.out.res.cell 3
      have r4 : wr.cell? ⟨w.heap.size + 1, 4, none⟩ = some (.int .i64 0) := O1.out.res.cell 4
      have f0 := free_of_heap O1.out.res 0
      have f1 := free_of_heap O1.out.res 1
      have f2 := free_of_heap O1.out.res 2
      have f3 := free_of_heap O1.out.res 3
      have f4 := free_of_heap O1.out.res 4
      have S5 := hide (set5 O1.out.res (.int .i64 o.1.1) (.int .i64 o.1.2.1) (.int .i64 o.1.2.2) (.slice x n c) (.int .i64 m))
      have l0 := S5.out.cell 0
      have l1 := S5.out.cell 1
      have l2 := S5.out.cell 2
      have l3 := S5.out.cell 3
      have l4 := S5.out.cell 4
      go_wp2
      refine bodyPost_ret (v := .agg #[.int .i64 o.1.1, .int .i64 o.1.2.1, .int .i64 o.1.2.2, .slice x n c, .int .i64 m]) (by simp [results, Tryz.results82, go_sem, l0, l1, l2, l3, l4]) rfl ⟨?_, _, _, _, rfl, ?_⟩
      · exact ((((O1.out.bl.setCell (p := ⟨w.heap.size + 1, 0, none⟩) (by simp) _).setCell (p := ⟨w.heap.size + 1, 1, none⟩) (by simp) _).setCell (p := ⟨w.heap.size + 1, 2, none⟩) (by simp) _).setCell (p := ⟨w.heap.size + 1, 3, none⟩) (by simp) _).setCell (p := ⟨w.heap.size + 1, 4, none⟩) (by simp) _
      · have hne : ∀ j, (Value.slice x n c).ownBlock = some j → j ≠ w.heap.size + 1 := fun j hj => by have := (O1.out.vs.lt j hj).1; omega
        exact own_base2 (own_set_far (own_set_far (own_set_far (own_set_far (own_set_far O1.out.vs hne) hne) hne) hne) hne) (by omega)
end Go.Proofs.YtcoofnhdbejnpaaGreatDoor

