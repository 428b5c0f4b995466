/- Plain functions: what the loops leave alone; the fault that is told; the whole reading. -/
import Derived.Test.YtjmogpgccnljdaaDoorSr
namespace Go.Proofs.YtjmogpgccnljdaaDoor
namespace Pq
theorem byStep_same (toks : List Tok) (len : Nat) (s : PS) : (byStep toks len s).keys = s.keys ∧ (byStep toks len s).funcs = s.funcs := by
  have h := same_oneOf toks colTxt 3 s
  have h2 := h.trans (same_twice (placeS toks len s) _)
  simp only [byStep, byMark]; split
  · exact ⟨h2.keys, h2.funcs⟩
  · exact ⟨h.keys, h.funcs⟩
theorem byR_same (toks : List Tok) (len : Nat) (s : PS) : (byR toks len s).keys = s.keys ∧ (byR toks len s).funcs = s.funcs := by
  induction s using byR.induct (toks := toks) (len := len) with
  | case1 s h ih => rw [byR, dif_pos h]; have := byStep_same toks len s; exact ⟨ih.1.trans this.1, ih.2.trans this.2⟩
  | case2 s h => rw [byR, dif_neg h]; exact byStep_same toks len s
theorem keyStep_same (toks : List Tok) (len : Nat) (s : PS) : (keyStep toks len s).by' = s.by' ∧ (keyStep toks len s).funcs = s.funcs := by
  have h := (same_oneOf toks colTxt 3 s).trans (same_take toks wDesc _)
  have h2 := h.trans (same_twice (placeS toks len s) _)
  simp only [keyStep, keyMark, keySt]; split
  · exact ⟨h2.by', h2.funcs⟩
  · exact ⟨h.by', h.funcs⟩
theorem keyR_same (toks : List Tok) (len : Nat) (s : PS) : (keyR toks len s).by' = s.by' ∧ (keyR toks len s).funcs = s.funcs := by
  induction s using keyR.induct (toks := toks) (len := len) with
  | case1 s h ih => rw [keyR, dif_pos h]; have := keyStep_same toks len s; exact ⟨ih.1.trans this.1, ih.2.trans this.2⟩
  | case2 s h => rw [keyR, dif_neg h]; exact keyStep_same toks len s
theorem q1_same (toks : List Tok) (len : Nat) (s : PS) : (q1 toks len s).keys = s.keys ∧ (q1 toks len s).funcs = s.funcs := by
  unfold q1; split
  · exact byR_same toks len s.step
  · exact ⟨rfl, rfl⟩
theorem q2_same (toks : List Tok) (len : Nat) (s : PS) : (q2 toks len s).funcs = s.funcs := by
  unfold q2; rw [(keyR_same _ _ _).2, (same_want _ _ _).funcs]; exact (q1_same toks len s).2
/-- the error that is named first, and its place -/
def faultE (s : PS) : Int := if s.failed then 3 else if s.many ≠ -1 then 4 else if s.twice ≠ -1 then 5 else if s.arg ≠ -1 then 6 else 0
def faultP (toks : List Tok) (len : Nat) (s : PS) : Int := if s.failed then placeS toks len s else if s.many ≠ -1 then s.many else if s.twice ≠ -1 then s.twice else if s.arg ≠ -1 then s.arg else 0
def ps0 : PS := ⟨0, false, [], [], [], false, 0, 0, -1, -1, -1⟩
theorem top1_next (toks : List Tok) (s : PS) : s.next ≤ (top1 toks s).next := numS_next toks { s with hasTop := true }
theorem topS_next (toks : List Tok) (s : PS) : s.next ≤ (topS toks s).next := by
  have h1 := top1_next toks s; have h2 := numS_next toks (top1 toks s).step
  unfold topS; split
  · have h3 : (top1 toks s).step.next = (top1 toks s).next + 1 := rfl
    simp only []; omega
  · exact h1
theorem same_top1 (toks : List Tok) (s : PS) : Same s (top1 toks s) := by
  have h := same_num toks { s with hasTop := true }
  exact ⟨h.by', h.keys, h.funcs⟩
theorem same_top (toks : List Tok) (s : PS) : Same s (topS toks s) := by
  unfold topS; split
  · have h := ((same_top1 toks s).trans (same_step _)).trans (same_num toks (top1 toks s).step)
    exact ⟨h.by', h.keys, h.funcs⟩
  · exact same_top1 toks s
theorem endS_next (toks : List Tok) (s : PS) : (endS toks s).next = s.next := by unfold endS; split <;> rfl
end Pq
end Go.Proofs.YtjmogpgccnljdaaDoor
