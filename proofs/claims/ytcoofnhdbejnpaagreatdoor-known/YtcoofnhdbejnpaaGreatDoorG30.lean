/- Package lines: isPartOf, insert. -/
import Derived.Test.YtcoofnhdbejnpaaGreatDoorG28
import Derived.Test.YtcoofnhdbejnpaaGreatDoorG29
import Derived.Test.YtcoofnhdbejnpaaGreatDoorG21
namespace Go.Proofs.YtcoofnhdbejnpaaGreatDoor
open Go.RowKit
theorem Pv.mates_dropC (cs : List Nat) (a b : Pv.R3) (k : Nat) (h : k < cs.length) : Pv.matesC (cs.drop k) a b = (decide (Pv.colV cs[k] a = Pv.colV cs[k] b) && Pv.matesC (cs.drop (k + 1)) a b) := by
  rw [List.drop_eq_getElem_cons h]; rfl
theorem Pv.mates_endC (cs : List Nat) (a b : Pv.R3) (k : Nat) (h : ¬ k < cs.length) : Pv.matesC (cs.drop k) a b = true := by
  rw [List.drop_eq_nil_of_le (by omega)]; rfl
set_option maxRecDepth 100000 in
set_option maxHeartbeats 4000000 in
theorem lpart_any {w : World} {g o : Nat} {vc vb : Value} {cs : List Nat} {L : List Pv.R3} (h1 : w.cell? ⟨g, o + 1, none⟩ = some vc) (hr : RdR w vc L) (hb : RdB w vb cs) (hl : cs.length ≤ 1000) (hc : ∀ c ∈ cs, c < 3) (p' u' v' : Int) :
    Calls Tryz.prog 173 #[.pointer (some ⟨g, o, none⟩), vb, .agg #[.int .i64 p', .int .i64 u', .int .i64 v']] w fun e w' => e = .returned (.bool (Pv.isPart cs L (p', u', v'))) ∧ Below w.heap.size w w' := by
  cases L with
  | nil =>
    have H1 := hide h1
    have HR := hide hr
    obtain ⟨xc, cc, rfl⟩ := RdG.sl hr
    obtain ⟨xb, cb, rfl⟩ := RdG.sl hb
    have hgl := cell_lt h1
    clear h1 hr hb hc
    go_enter Tryz.func173, Tryz.ntmps173
    go_upto_region 1 with fail
    have C0 := hide (K1.start w #[.int .i64 p', .int .i64 u', .int .i64 v'] 48)
    generalize w.alloc (.cells #[.int .i64 p', .int .i64 u', .int .i64 v'] 48) = w0 at *
    have q1 : w0.cell? ⟨g, o + 1, none⟩ = some (.slice xc 0 cc) := (C0.out.bl.cell (p := ⟨g, o + 1, none⟩) hgl).trans H1.out
    go_wp2
    go_ret
    exact ⟨rfl, C0.out.bl⟩
  | cons y L =>
    have H1 := hide h1
    have HR := hide hr
    obtain ⟨xc, cc, rfl⟩ := RdG.sl hr
    obtain ⟨xb, cb, rfl⟩ := RdG.sl hb
    have hgl := cell_lt h1
    have HB := hide hb
    have HC := hide hc
    clear h1 hr hb hc
    obtain ⟨gc, oc, capc, e, _⟩ := RdG.form1 HR.out (by simp)
    cases e
    go_enter Tryz.func173, Tryz.ntmps173
    go_upto_region 1 with fail
    have C0 := hide (K1.start w #[.int .i64 p', .int .i64 u', .int .i64 v'] 48)
    generalize w.alloc (.cells #[.int .i64 p', .int .i64 u', .int .i64 v'] 48) = w0 at *
    have q1 : w0.cell? ⟨g, o + 1, none⟩ = some (.slice (some ⟨gc, oc, none⟩) (y :: L).length cc) := (C0.out.bl.cell (p := ⟨g, o + 1, none⟩) hgl).trans H1.out
    have hne : (((y :: L).length : Int) == 0) = false := by rw [beq_eq_false_iff_ne]; simp; omega
    have hpos : (0 : Int) < ((y :: L).length : Int) := by simp
    have hpos' : 0 < (y :: L).length := by simp
    have HX : ∀ wx, Hid (Below w0.heap.size w0 wx → Below w.heap.size w wx ∧ wx.cell? ⟨g, o + 1, none⟩ = some (.slice (some ⟨gc, oc, none⟩) (y :: L).length cc) ∧ wx.cell? ⟨w.heap.size, 0, none⟩ = some (.int .i64 p') ∧ wx.cell? ⟨w.heap.size, 1, none⟩ = some (.int .i64 u') ∧ wx.cell? ⟨w.heap.size, 2, none⟩ = some (.int .i64 v') ∧ wx.cell? ⟨gc, oc, none⟩ = some (.int .i64 y.1) ∧ wx.cell? ⟨gc, oc + 1, none⟩ = some (.int .i64 y.2.1) ∧ wx.cell? ⟨gc, oc + 2, none⟩ = some (.int .i64 y.2.2)) := fun wx hb => by
      have C1 := C0.out.below hb
      obtain ⟨d0, d1, d2⟩ := (HR.out.below C1.bl).cell 0 (by simp)
      simp only [Nat.zero_mul, Nat.add_zero, List.getElem_cons_zero] at d0 d1 d2
      exact ⟨C1.bl, (C1.bl.cell (p := ⟨g, o + 1, none⟩) hgl).trans H1.out, cell_of_heap C1.a 0, cell_of_heap C1.a 1, cell_of_heap C1.a 2, d0, d1, d2⟩
    have HP : Hid (Pv.isPart cs (y :: L) (p', u', v') = Pv.matesC (cs.drop 0) (y.1, y.2.1, y.2.2) (p', u', v')) := rfl
    generalize (y :: L).length = nl at *
    go_wp2
    go_loopw [7] (fun i wr => ∃ k : Nat, k ≤ cs.length ∧ i = .int .i64 k ∧ Below w0.heap.size w0 wr ∧ Hid (Pv.isPart cs (y :: L) (p', u', v') = Pv.matesC (cs.drop k) (y.1, y.2.1, y.2.2) (p', u', v'))) (fun i _ => cs.length - (intOf i).toNat)
    case atStart => exact ⟨0, by omega, rfl, Below.refl _ _, HP.out⟩
    case round =>
      obtain ⟨k, hk, rfl, hb, HN⟩ := hrel
      have B1 := hide hb
      clear hb q1
      obtain ⟨bw, q1, b0, b1, b2, d0, d1, d2⟩ := (HX _).out B1.out
      by_cases hlt : k < cs.length
      · have hlt' : (k : Int) < (cs.length : Int) := by omega
        obtain ⟨gb, ob, capb, e, _⟩ := RdG.form1 HB.out (by omega)
        cases e
        have HS := hide (Pv.mates_dropC cs (y.1, y.2.1, y.2.2) (p', u', v') k hlt)
        have hc3 := HC.out _ (List.getElem_mem hlt)
        have HY : ∀ w', Hid (Below wr.heap.size wr w' → (fun w' => w'.cell? ⟨g, o + 1, none⟩ = some (.slice (some ⟨gc, oc, none⟩) nl cc) ∧ w'.cell? ⟨w.heap.size, 0, none⟩ = some (.int .i64 p') ∧ w'.cell? ⟨w.heap.size, 1, none⟩ = some (.int .i64 u') ∧ w'.cell? ⟨w.heap.size, 2, none⟩ = some (.int .i64 v') ∧ w'.cell? ⟨gc, oc, none⟩ = some (.int .i64 y.1) ∧ w'.cell? ⟨gc, oc + 1, none⟩ = some (.int .i64 y.2.1) ∧ w'.cell? ⟨gc, oc + 2, none⟩ = some (.int .i64 y.2.2) ∧ w'.cell? ⟨gb, ob + k, none⟩ = some (.int .i64 (cs[k] : Int)) ∧ Hid (Below wr.heap.size wr w')) w') := fun w' hb => by
          obtain ⟨bw, q1, b0, b1, b2, d0, d1, d2⟩ := (HX _).out (B1.out.trans (hb.mono B1.out.size))
          exact ⟨q1, b0, b1, b2, d0, d1, d2, (HB.out.below bw).cell k hlt, hb⟩
        clear bw
        go_upto_region 6 with fail
        clear q1 b0 b1 b2 d0 d1 d2
        go_region_held3 (fun w' => w'.cell? ⟨g, o + 1, none⟩ = some (.slice (some ⟨gc, oc, none⟩) nl cc) ∧ w'.cell? ⟨w.heap.size, 0, none⟩ = some (.int .i64 p') ∧ w'.cell? ⟨w.heap.size, 1, none⟩ = some (.int .i64 u') ∧ w'.cell? ⟨w.heap.size, 2, none⟩ = some (.int .i64 v') ∧ w'.cell? ⟨gc, oc, none⟩ = some (.int .i64 y.1) ∧ w'.cell? ⟨gc, oc + 1, none⟩ = some (.int .i64 y.2.1) ∧ w'.cell? ⟨gc, oc + 2, none⟩ = some (.int .i64 y.2.2) ∧ w'.cell? ⟨gb, ob + k, none⟩ = some (.int .i64 (cs[k] : Int)) ∧ Hid (Below wr.heap.size wr w')) (first | exact (HY _).out (below_drew0 _) | (refine (HY _).out ?_; go_split_ands; exact Below.trans (Hid.out (by assumption)) (Below.mono (by assumption) (Below.size (Hid.out (by assumption)))))) ((go_at_call 197; refine (colOf_any hc3 _ _ _ _).mono ?_; rintro e w3 ⟨rfl, b3⟩))
        rename_i hH
        have B4 := hide (B1.out.trans (hH.2.2.2.2.2.2.2.2.out.mono B1.out.size))
        have BW := hide ((HX _).out B4.out).1
        clear hH b3
        generalize Pv.colV cs[k] (y.1, y.2.1, y.2.2) = cx at *
        generalize Pv.colV cs[k] (p', u', v') = cy at *
        by_cases hxy : cx = cy
        · subst hxy
          rw [decide_eq_true rfl, Bool.true_and] at HS
          go_wp2
          go_roundw
          case rel => exact ⟨k + 1, by omega, by go_num, B4.out, HN.out.trans HS.out⟩
          case measure => simp [intOf]; omega
        · rw [decide_eq_false hxy, Bool.false_and] at HS
          have hxy' : (cx != cy) = true := by simp [hxy]
          have HR2 : Hid (Pv.isPart cs (y :: L) (p', u', v') = false) := HN.out.trans HS.out
          clear hxy
          go_wp2
          go_ret
          exact ⟨by rw [HR2.out]; rfl, BW.out⟩
      · have hlt' : ¬ (k : Int) < (cs.length : Int) := by omega
        have HR2 : Hid (Pv.isPart cs (y :: L) (p', u', v') = true) := HN.out.trans (Pv.mates_endC cs _ _ k hlt)
        have BW := hide bw
        clear bw
        go_wp2
        go_ret
        exact ⟨by rw [HR2.out]; rfl, BW.out⟩
end Go.Proofs.YtcoofnhdbejnpaaGreatDoor

/- All blocks but some are as they were. -/
namespace Go.Proofs.YtcoofnhdbejnpaaGreatDoor
open Go.RowKit
/-- all blocks but those of S are as they were -/
structure But (S : Nat → Prop) (w w' : World) : Prop where
  os : w'.os = w.os
  tape : w'.tape = w.tape
  output : w'.output = w.output
  size : w.heap.size ≤ w'.heap.size
  block : ∀ k, k < w.heap.size → ¬ S k → w'.heap[k]? = w.heap[k]?
theorem But.below {S : Nat → Prop} {w w' : World} (h : But S w w') {B : Nat} (hS : ∀ k, k < B → ¬ S k) (hB : B ≤ w.heap.size) : Below B w w' :=
  ⟨h.os, h.tape, h.output, h.size, fun k hk => h.block k (by omega) (hS k hk)⟩
theorem But.push {w w6 : World} {o : Obj} {v : Value} (hg : (w.alloc o).grownBy w6 v.ownBlock) : But (fun k => v.ownBlock = some k) w w6 := by
  have b0 : Below 0 w w6 := ((Below.refl 0 w).alloc (Nat.zero_le _) o).grown hg (Nat.zero_le _) (fun _ _ => Nat.zero_le _)
  refine ⟨b0.os, b0.tape, b0.output, b0.size, fun k hk hn => ?_⟩
  rw [hg.block k (by simp; omega) (fun e => hn e.symm)]
  exact ((Below.refl w.heap.size w).alloc (Nat.le_refl _) o).block k hk
theorem But.set {S : Nat → Prop} {w w6 : World} (h : But S w w6) (b j : Nat) (v : Value) : But (fun k => k = b ∨ S k) w (w6.setCell ⟨b, j, none⟩ v) := by
  have b0 : Below 0 w6 (w6.setCell ⟨b, j, none⟩ v) := (Below.refl 0 w6).setCell (p := ⟨b, j, none⟩) (Nat.zero_le _) v
  refine ⟨b0.os.trans h.os, b0.tape.trans h.tape, b0.output.trans h.output, Nat.le_trans h.size b0.size, fun k hk hn => ?_⟩
  rw [set_far _ _ _ _ k (fun e => hn (.inl e))]
  exact h.block k hk (fun e => hn (.inr e))
theorem But.trans {S T : Nat → Prop} {w w1 w2 : World} (h : But S w w1) (k : But T w1 w2) : But (fun i => S i ∨ (T i ∧ i < w.heap.size)) w w2 :=
  ⟨k.os.trans h.os, k.tape.trans h.tape, k.output.trans h.output, Nat.le_trans h.size k.size, fun i hi hn => by rw [k.block i (by have := h.size; omega) (fun e => hn (.inr ⟨e, hi⟩)), h.block i hi (fun e => hn (.inl e))]⟩
theorem But.weak {S T : Nat → Prop} {w w1 : World} (h : But S w w1) (hs : ∀ k, k < w.heap.size → S k → T k) : But T w w1 := ⟨h.os, h.tape, h.output, h.size, fun k hk hn => h.block k hk (fun e => hn (hs k hk e))⟩
theorem own_but {w w' : World} {B e size n : Nat} {v : Value} {xs : List Value} (h : w.ownsRow B e size v n xs) {S : Nat → Prop} (hb : But S w w') (hs : ∀ g, v.ownBlock = some g → ¬ S g) : w'.ownsRow B e size v n xs := by
  refine ⟨h.1, ?_⟩
  rcases h.2 with h1 | ⟨g, cap, cur, h1, h2, h3, h4⟩
  · exact .inl h1
  · exact .inr ⟨g, cap, cur, h1, h2, by rw [hb.block g (Array.getElem?_eq_some_iff.1 h3).1 (hs g (by rw [h1]; rfl))]; exact h3, h4⟩
theorem own_at {w : World} {B e size n : Nat} {v : Value} {xs : List Value} (h : w.ownsRow B e size v n xs) {g : Nat} (hg : v.ownBlock = some g) : B ≤ g ∧ g < w.heap.size := by
  rcases h.2 with ⟨h1, _⟩ | ⟨g', cap, cur, h1, h2, h3, _⟩
  · rw [h1] at hg; cases hg
  · rw [h1] at hg; cases hg; exact ⟨h2, (Array.getElem?_eq_some_iff.1 h3).1⟩
end Go.Proofs.YtcoofnhdbejnpaaGreatDoor

