/- Plain functions: the numbers of what was read are small. -/
import Derived.Test.YtjmogpgccnljdaaDoorSw
namespace Go.Proofs.YtjmogpgccnljdaaDoor
namespace Pq
def GoodToks (toks : List Tok) : Prop := ∀ t ∈ toks, GoodTok t
theorem numV_good {toks : List Tok} (h : GoodToks toks) (s : PS) : goodNum (numV toks s) := by
  unfold numV
  split
  · rename_i hn
    unfold isNum at hn
    split
    · rename_i x hx
      rw [hx] at hn
      simp at hn
      have hm := List.mem_of_getElem? hx
      have ⟨h1, h2⟩ := h x hm hn.2
      have := worth_bd 2 x.text h1 h2
      exact ⟨this.1, by have := this.2; simp at this; omega⟩
    · exact ⟨by omega, by omega⟩
  · exact ⟨by omega, by omega⟩
theorem zero_good : goodNum 0 := ⟨by omega, by omega⟩
theorem edgeR_good {toks : List Tok} (h : GoodToks toks) (s : PS) : goodEdge (edgeR toks s).1 := by
  unfold edgeR
  repeat' split
  all_goals first | exact zero_good | exact numV_good h s
theorem frameR_good {toks : List Tok} (h : GoodToks toks) (s : PS) : goodFrame (frameR toks s).1 := by
  unfold frameR
  repeat' split
  all_goals first | exact ⟨zero_good, zero_good, zero_good⟩ | exact ⟨numV_good h _, zero_good, zero_good⟩ | exact ⟨zero_good, edgeR_good h _, edgeR_good h _⟩
theorem fr0_good : goodFrame fr0 := ⟨zero_good, zero_good, zero_good⟩
theorem funcR_good {toks : List Tok} (h : GoodToks toks) (len : Nat) (s : PS) : goodFn (funcR toks len s).1 := by
  have h12 := oneOfV_lt toks kindTxt 12 s (by omega)
  unfold funcR
  repeat' split
  · exact ⟨h12, by simp, zero_good, fr0_good⟩
  · exact ⟨by simp [tileR], by simp [tileR], numV_good h _, fr0_good⟩
  · exact ⟨h12, oneOfV_lt _ _ _ _ (by omega), numV_good h _, fr0_good⟩
  · exact ⟨h12, oneOfV_lt _ _ _ _ (by omega), zero_good, frameR_good h _⟩
theorem byR_good (toks : List Tok) (len : Nat) (s : PS) (h : ∀ c ∈ s.by', c < 3) : ∀ c ∈ (byR toks len s).by', c < 3 := by
  have hstep : ∀ s : PS, (∀ c ∈ s.by', c < 3) → ∀ c ∈ (byStep toks len s).by', c < 3 := fun s h c hc => by
    simp only [byStep, List.mem_append, List.mem_singleton] at hc
    rcases hc with hc | rfl
    · exact h c hc
    · exact oneOfV_lt _ _ _ _ (by omega)
  induction s using byR.induct (toks := toks) (len := len) with
  | case1 s h1 ih => rw [byR, dif_pos h1]; exact ih (hstep s h)
  | case2 s h1 => rw [byR, dif_neg h1]; exact hstep s h
theorem keyR_good (toks : List Tok) (len : Nat) (s : PS) (h : ∀ c ∈ s.keys, c.1 < 3) : ∀ c ∈ (keyR toks len s).keys, c.1 < 3 := by
  have hstep : ∀ s : PS, (∀ c ∈ s.keys, c.1 < 3) → ∀ c ∈ (keyStep toks len s).keys, c.1 < 3 := fun s h c hc => by
    simp only [keyStep, List.mem_append, List.mem_singleton] at hc
    rcases hc with hc | rfl
    · exact h c hc
    · exact oneOfV_lt _ _ _ _ (by omega)
  induction s using keyR.induct (toks := toks) (len := len) with
  | case1 s h1 ih => rw [keyR, dif_pos h1]; exact ih (hstep s h)
  | case2 s h1 => rw [keyR, dif_neg h1]; exact hstep s h
theorem funR_good {toks : List Tok} (hT : GoodToks toks) (len : Nat) (s : PS) (h : ∀ c ∈ s.funcs, goodFn c) : ∀ c ∈ (funR toks len s).funcs, goodFn c := by
  have hstep : ∀ s : PS, (∀ c ∈ s.funcs, goodFn c) → ∀ c ∈ (funStep toks len s).funcs, goodFn c := fun s h c hc => by
    simp only [funStep, List.mem_append, List.mem_singleton] at hc
    rcases hc with hc | rfl
    · exact h c hc
    · exact funcR_good hT _ _
  induction s using funR.induct (toks := toks) (len := len) with
  | case1 s h1 ih => rw [funR, dif_pos h1]; exact ih (hstep s h)
  | case2 s h1 => rw [funR, dif_neg h1]; exact hstep s h
theorem funMark_same (toks : List Tok) (len : Nat) (s : PS) : Same s (funMark toks len s) := by unfold funMark; split <;> exact ⟨rfl, rfl, rfl⟩
theorem funStep_same (toks : List Tok) (len : Nat) (s : PS) : (funStep toks len s).by' = s.by' ∧ (funStep toks len s).keys = s.keys := by
  have h := (funMark_same toks len s).trans (same_func toks len _)
  exact ⟨h.by', h.keys⟩
theorem funR_same (toks : List Tok) (len : Nat) (s : PS) : (funR toks len s).by' = s.by' ∧ (funR toks len s).keys = s.keys := by
  induction s using funR.induct (toks := toks) (len := len) with
  | case1 s h ih => rw [funR, dif_pos h]; have := funStep_same toks len s; exact ⟨ih.1.trans this.1, ih.2.trans this.2⟩
  | case2 s h => rw [funR, dif_neg h]; exact funStep_same toks len s
/-! top and from -/
def tf (s : PS) : Int × Int := (s.top, s.frm)
theorem tf_oneOf (toks : List Tok) (txt : Nat → Bytes) (n : Nat) (s : PS) : tf (oneOfS toks txt n s) = tf s := by unfold oneOfS; split <;> rfl
theorem tf_want (toks : List Tok) (t : Bytes) (s : PS) : tf (wantS toks t s) = tf s := by unfold wantS; split <;> rfl
theorem tf_take (toks : List Tok) (t : Bytes) (s : PS) : tf (takeS toks t s) = tf s := by unfold takeS; split <;> rfl
theorem tf_num (toks : List Tok) (s : PS) : tf (numS toks s) = tf s := by unfold numS; split <;> rfl
theorem tf_tile (toks : List Tok) (len : Nat) (s : PS) : tf (tileS toks len s) = tf s := by unfold tileS; split <;> exact tf_num toks s
theorem tf_twice (n : Int) (s : PS) : tf (twiceS n s) = tf s := by unfold twiceS; split <;> rfl
theorem tf_step (s : PS) : tf s.step = tf s := rfl
theorem tf_end (toks : List Tok) (s : PS) : tf (endS toks s) = tf s := by unfold endS; split <;> rfl
theorem tf_edge (toks : List Tok) (s : PS) : tf (edgeR toks s).2 = tf s := by
  unfold edgeR
  repeat' split
  all_goals first | rfl | exact tf_num toks s | exact (tf_want _ _ _).trans (tf_num toks s)
theorem tf_frame (toks : List Tok) (s : PS) : tf (frameR toks s).2 = tf s := by
  unfold frameR
  repeat' split
  all_goals first | rfl | exact tf_num toks s.step | exact ((tf_edge _ _).trans (tf_want _ _ _)).trans (tf_edge _ _)
theorem tf_colComma (toks : List Tok) (s : PS) : tf (colComma toks s) = tf s := ((tf_want _ _ _).trans (tf_oneOf _ _ _ _)).trans (tf_want _ _ _)
theorem tf_func (toks : List Tok) (len : Nat) (s : PS) : tf (funcR toks len s).2 = tf s := by
  have h0 := tf_oneOf toks kindTxt 12 s
  unfold funcR
  generalize oneOfS toks kindTxt 12 s = s1 at *
  repeat' split
  · exact h0
  · exact (((tf_want _ _ _).trans (tf_tile _ _ _)).trans (tf_want _ _ _)).trans h0
  · exact (((tf_want _ _ _).trans (tf_num _ _)).trans (tf_colComma _ _)).trans h0
  · exact (((tf_want _ _ _).trans (tf_frame _ _)).trans (tf_colComma _ _)).trans h0
theorem tf_byR (toks : List Tok) (len : Nat) (s : PS) : tf (byR toks len s) = tf s := by
  have hstep : ∀ s : PS, tf (byStep toks len s) = tf s := fun s => by
    have h1 := tf_oneOf toks colTxt 3 s
    have h2 := (tf_twice (placeS toks len s) (oneOfS toks colTxt 3 s)).trans h1
    show tf (byMark toks len s) = _
    unfold byMark; split
    · exact h2
    · exact h1
  induction s using byR.induct (toks := toks) (len := len) with
  | case1 s h ih => rw [byR, dif_pos h]; exact ih.trans (hstep s)
  | case2 s h => rw [byR, dif_neg h]; exact hstep s
theorem tf_keyR (toks : List Tok) (len : Nat) (s : PS) : tf (keyR toks len s) = tf s := by
  have hstep : ∀ s : PS, tf (keyStep toks len s) = tf s := fun s => by
    have h1 := (tf_take toks wDesc _).trans (tf_oneOf toks colTxt 3 s)
    have h2 := (tf_twice (placeS toks len s) _).trans h1
    show tf (keyMark toks len s) = _
    unfold keyMark; split
    · exact h2
    · exact h1
  induction s using keyR.induct (toks := toks) (len := len) with
  | case1 s h ih => rw [keyR, dif_pos h]; exact ih.trans (hstep s)
  | case2 s h => rw [keyR, dif_neg h]; exact hstep s
theorem tf_funR (toks : List Tok) (len : Nat) (s : PS) : tf (funR toks len s) = tf s := by
  have hstep : ∀ s : PS, tf (funStep toks len s) = tf s := fun s => by
    have h1 : tf (funMark toks len s) = tf s := by unfold funMark; split <;> rfl
    exact (tf_func toks len _).trans h1
  induction s using funR.induct (toks := toks) (len := len) with
  | case1 s h ih => rw [funR, dif_pos h]; exact ih.trans (hstep s)
  | case2 s h => rw [funR, dif_neg h]; exact hstep s
theorem tf_q3 (toks : List Tok) (len : Nat) (s : PS) : tf (q3 toks len s) = tf s := by
  unfold q3 q2 q1
  rw [tf_funR, tf_want, tf_keyR, tf_want]
  split
  · rw [tf_byR]; rfl
  · rfl
theorem top_good {toks : List Tok} (hT : GoodToks toks) (s : PS) (h : tf s = (0, 0)) : goodNum (topS toks s).top ∧ goodNum (topS toks s).frm := by
  have h1 : (top1 toks s).frm = 0 := by
    have := tf_num toks { s with hasTop := true }
    have e : tf { s with hasTop := true } = (0, 0) := h
    rw [e] at this
    exact congrArg Prod.snd this
  unfold topS; split
  · refine ⟨?_, numV_good hT _⟩
    have e := congrArg Prod.fst (tf_num toks (top1 toks s).step)
    show goodNum (numS toks (top1 toks s).step).top
    have e' : (numS toks (top1 toks s).step).top = (top1 toks s).top := e
    rw [e']; exact numV_good hT _
  · exact ⟨numV_good hT _, by rw [h1]; exact zero_good⟩
theorem end_good {toks : List Tok} (hT : GoodToks toks) (len : Nat) :
    (∀ c ∈ (queryS toks len ps0).by', c < 3) ∧ (∀ c ∈ (queryS toks len ps0).keys, c.1 < 3) ∧ (∀ c ∈ (queryS toks len ps0).funcs, goodFn c) ∧ goodNum (queryS toks len ps0).top ∧ goodNum (queryS toks len ps0).frm := by
  have hb : ∀ c ∈ (q3 toks len ps0).by', c < 3 := by
    unfold q3 q2 q1
    rw [(funR_same _ _ _).1, (same_want _ _ _).by', (keyR_same _ _ _).1, (same_want _ _ _).by']
    split
    · exact byR_good _ _ _ (by simp [ps0, PS.step])
    · simp [ps0]
  have hk : ∀ c ∈ (q3 toks len ps0).keys, c.1 < 3 := by
    unfold q3 q2
    rw [(funR_same _ _ _).2, (same_want _ _ _).keys]
    refine keyR_good _ _ _ ?_
    rw [(same_want _ _ _).keys, (q1_same _ _ _).1]; simp [ps0]
  have hf : ∀ c ∈ (q3 toks len ps0).funcs, goodFn c := by
    unfold q3
    refine funR_good hT _ _ ?_
    rw [(same_want _ _ _).funcs, q2_same]; simp [ps0]
  have ht : tf (q3 toks len ps0) = (0, 0) := tf_q3 toks len ps0
  have he := same_end toks (q4 toks len ps0)
  have het := tf_end toks (q4 toks len ps0)
  have e1 : (queryS toks len ps0).top = (q4 toks len ps0).top := congrArg Prod.fst het
  have e2 : (queryS toks len ps0).frm = (q4 toks len ps0).frm := congrArg Prod.snd het
  rw [e1, e2]
  have e3 : (queryS toks len ps0).by' = (q4 toks len ps0).by' := he.by'
  have e4 : (queryS toks len ps0).keys = (q4 toks len ps0).keys := he.keys
  have e5 : (queryS toks len ps0).funcs = (q4 toks len ps0).funcs := he.funcs
  rw [e3, e4, e5]
  clear e1 e2 e3 e4 e5 he het
  unfold q4
  split
  · have hs := same_top toks (q3 toks len ps0).step
    have hg := top_good hT (q3 toks len ps0).step ht
    rw [hs.by', hs.keys, hs.funcs]
    exact ⟨hb, hk, hf, hg.1, hg.2⟩
  · have e1 : (q3 toks len ps0).top = 0 := congrArg Prod.fst ht
    have e2 : (q3 toks len ps0).frm = 0 := congrArg Prod.snd ht
    rw [e1, e2]
    exact ⟨hb, hk, hf, zero_good, zero_good⟩
end Pq
end Go.Proofs.YtjmogpgccnljdaaDoor
