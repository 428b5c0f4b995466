/- Plain functions: the numbers of what was read are small. -/
import Derived.Test.YtcoofnhdbejnpabGreatDoorG01
import Derived.Test.YtcoofnhdbejnpabGreatDoorG00
namespace Go.Proofs.YtcoofnhdbejnpabGreatDoor
namespace Pq
def GoodToks (toks : List Tok) : Prop := ∀ t ∈ toks, GoodTok t
theorem numV_good {toks : List Tok} (h : GoodToks toks) (s : PS) : goodNum (numV toks s) := by
  unfold numV
  split
  · rename_i hn
    unfold isNum at hn
    split
    · rename_i x hx
      rw [hx] at hn
      simp at hn
      have hm := List.mem_of_getElem? hx
      have ⟨h1, h2⟩ := h x hm hn.2
      have := worth_bd 2 x.text h1 h2
      exact ⟨this.1, by have := this.2; simp at this; omega⟩
    · exact ⟨by omega, by omega⟩
  · exact ⟨by omega, by omega⟩
theorem zero_good : goodNum 0 := ⟨by omega, by omega⟩
theorem edgeR_good {toks : List Tok} (h : GoodToks toks) (s : PS) : goodEdge (edgeR toks s).1 := by
  unfold edgeR
  repeat' split
  all_goals first | exact zero_good | exact numV_good h s
theorem frameR_good {toks : List Tok} (h : GoodToks toks) (s : PS) : goodFrame (frameR toks s).1 := by
  unfold frameR
  repeat' split
  all_goals first | exact ⟨zero_good, zero_good, zero_good⟩ | exact ⟨numV_good h _, zero_good, zero_good⟩ | exact ⟨zero_good, edgeR_good h _, edgeR_good h _⟩
theorem fr0_good : goodFrame fr0 := ⟨zero_good, zero_good, zero_good⟩
theorem funcR_good {toks : List Tok} (h : GoodToks toks) (len : Nat) (s : PS) : goodFn (funcR toks len s).1 := by
  have h12 := oneOfV_lt toks kindTxt 12 s (by omega)
  unfold funcR
  repeat' split
  · exact ⟨h12, by simp, zero_good, fr0_good⟩
  · exact ⟨by simp [tileR], by simp [tileR], numV_good h _, fr0_good⟩
  · exact ⟨h12, oneOfV_lt _ _ _ _ (by omega), numV_good h _, fr0_good⟩
  · exact ⟨h12, oneOfV_lt _ _ _ _ (by omega), zero_good, frameR_good h _⟩
theorem byR_good (toks : List Tok) (len : Nat) (s : PS) (h : ∀ c ∈ s.by', c < 3) : ∀ c ∈ (byR toks len s).by', c < 3 := by
  have hstep : ∀ s : PS, (∀ c ∈ s.by', c < 3) → ∀ c ∈ (byStep toks len s).by', c < 3 := fun s h c hc => by
    simp only [byStep, List.mem_append, List.mem_singleton] at hc
    rcases hc with hc | rfl
    · exact h c hc
    · exact oneOfV_lt _ _ _ _ (by omega)
  induction s using byR_ind (toks := toks) (len := len) with
  | case1 s h1 ih => rw [byR_eq, dif_pos h1]; exact ih (hstep s h)
  | case2 s h1 => rw [byR_eq, dif_neg h1]; exact hstep s h
theorem keyR_good (toks : List Tok) (len : Nat) (s : PS) (h : ∀ c ∈ s.keys, c.1 < 3) : ∀ c ∈ (keyR toks len s).keys, c.1 < 3 := by
  have hstep : ∀ s : PS, (∀ c ∈ s.keys, c.1 < 3) → ∀ c ∈ (keyStep toks len s).keys, c.1 < 3 := fun s h c hc => by
    simp only [keyStep, List.mem_append, List.mem_singleton] at hc
    rcases hc with hc | rfl
    · exact h c hc
    · exact oneOfV_lt _ _ _ _ (by omega)
  induction s using keyR_ind (toks := toks) (len := len) with
  | case1 s h1 ih => rw [keyR_eq, dif_pos h1]; exact ih (hstep s h)
  | case2 s h1 => rw [keyR_eq, dif_neg h1]; exact hstep s h
theorem funR_good {toks : List Tok} (hT : GoodToks toks) (len : Nat) (s : PS) (h : ∀ c ∈ s.funcs, goodFn c) : ∀ c ∈ (funR toks len s).funcs, goodFn c := by
  have hstep : ∀ s : PS, (∀ c ∈ s.funcs, goodFn c) → ∀ c ∈ (funStep toks len s).funcs, goodFn c := fun s h c hc => by
    simp only [funStep, List.mem_append, List.mem_singleton] at hc
    rcases hc with hc | rfl
    · exact h c hc
    · exact funcR_good hT _ _
  induction s using funR_ind (toks := toks) (len := len) with
  | case1 s h1 ih => rw [funR_eq, dif_pos h1]; exact ih (hstep s h)
  | case2 s h1 => rw [funR_eq, dif_neg h1]; exact hstep s h
theorem funMark_same (toks : List Tok) (len : Nat) (s : PS) : Same s (funMark toks len s) := by unfold funMark; split <;> exact ⟨rfl, rfl, rfl⟩
theorem funStep_same (toks : List Tok) (len : Nat) (s : PS) : (funStep toks len s).by' = s.by' ∧ (funStep toks len s).keys = s.keys := by
  have h := (funMark_same toks len s).trans (same_func toks len _)
  exact ⟨h.by', h.keys⟩
theorem funR_same (toks : List Tok) (len : Nat) (s : PS) : (funR toks len s).by' = s.by' ∧ (funR toks len s).keys = s.keys := by
  induction s using funR_ind (toks := toks) (len := len) with
  | case1 s h ih => rw [funR_eq, dif_pos h]; have := funStep_same toks len s; exact ⟨ih.1.trans this.1, ih.2.trans this.2⟩
  | case2 s h => rw [funR_eq, dif_neg h]; exact funStep_same toks len s
/-! top and from -/
def tf (s : PS) : Int × Int := (s.top, s.frm)
theorem tf_oneOf (toks : List Tok) (txt : Nat → Bytes) (n : Nat) (s : PS) : tf (oneOfS toks txt n s) = tf s := by unfold oneOfS; split <;> rfl
theorem tf_want (toks : List Tok) (t : Bytes) (s : PS) : tf (wantS toks t s) = tf s := by unfold wantS; split <;> rfl
theorem tf_take (toks : List Tok) (t : Bytes) (s : PS) : tf (takeS toks t s) = tf s := by unfold takeS; split <;> rfl
theorem tf_num (toks : List Tok) (s : PS) : tf (numS toks s) = tf s := by unfold numS; split <;> rfl
theorem tf_tile (toks : List Tok) (len : Nat) (s : PS) : tf (tileS toks len s) = tf s := by unfold tileS; split <;> exact tf_num toks s
theorem tf_twice (n : Int) (s : PS) : tf (twiceS n s) = tf s := by unfold twiceS; split <;> rfl
theorem tf_end (toks : List Tok) (s : PS) : tf (endS toks s) = tf s := by unfold endS; split <;> rfl
theorem tf_edge (toks : List Tok) (s : PS) : tf (edgeR toks s).2 = tf s := by
  unfold edgeR
  repeat' split
  all_goals first | rfl | exact tf_num toks s | exact (tf_want _ _ _).trans (tf_num toks s)
theorem tf_frame (toks : List Tok) (s : PS) : tf (frameR toks s).2 = tf s := by
  unfold frameR
  repeat' split
  all_goals first | rfl | exact tf_num toks s.step | exact ((tf_edge _ _).trans (tf_want _ _ _)).trans (tf_edge _ _)
theorem tf_colComma (toks : List Tok) (s : PS) : tf (colComma toks s) = tf s := ((tf_want _ _ _).trans (tf_oneOf _ _ _ _)).trans (tf_want _ _ _)
theorem tf_func (toks : List Tok) (len : Nat) (s : PS) : tf (funcR toks len s).2 = tf s := by
  have h0 := tf_oneOf toks kindTxt 12 s
  unfold funcR
  generalize oneOfS toks kindTxt 12 s = s1 at *
  repeat' split
  · exact h0
  · exact (((tf_want _ _ _).trans (tf_tile _ _ _)).trans (tf_want _ _ _)).trans h0
  · exact (((tf_want _ _ _).trans (tf_num _ _)).trans (tf_colComma _ _)).trans h0
  · exact (((tf_want _ _ _).trans (tf_frame _ _)).trans (tf_colComma _ _)).trans h0
theorem tf_byR (toks : List Tok) (len : Nat) (s : PS) : tf (byR toks len s) = tf s := by
  have hstep : ∀ s : PS, tf (byStep toks len s) = tf s := fun s => by
    have h1 := tf_oneOf toks colTxt 3 s
    have h2 := (tf_twice (placeS toks len s) (oneOfS toks colTxt 3 s)).trans h1
    show tf (byMark toks len s) = _
    unfold byMark; split
    · exact h2
    · exact h1
  induction s using byR_ind (toks := toks) (len := len) with
  | case1 s h ih => rw [byR_eq, dif_pos h]; exact ih.trans (hstep s)
  | case2 s h => rw [byR_eq, dif_neg h]; exact hstep s
theorem tf_keyR (toks : List Tok) (len : Nat) (s : PS) : tf (keyR toks len s) = tf s := by
  have hstep : ∀ s : PS, tf (keyStep toks len s) = tf s := fun s => by
    have h1 := (tf_take toks wDesc _).trans (tf_oneOf toks colTxt 3 s)
    have h2 := (tf_twice (placeS toks len s) _).trans h1
    show tf (keyMark toks len s) = _
    unfold keyMark; split
    · exact h2
    · exact h1
  induction s using keyR_ind (toks := toks) (len := len) with
  | case1 s h ih => rw [keyR_eq, dif_pos h]; exact ih.trans (hstep s)
  | case2 s h => rw [keyR_eq, dif_neg h]; exact hstep s
theorem tf_funR (toks : List Tok) (len : Nat) (s : PS) : tf (funR toks len s) = tf s := by
  have hstep : ∀ s : PS, tf (funStep toks len s) = tf s := fun s => by
    have h1 : tf (funMark toks len s) = tf s := by unfold funMark; split <;> rfl
    exact (tf_func toks len _).trans h1
  induction s using funR_ind (toks := toks) (len := len) with
  | case1 s h ih => rw [funR_eq, dif_pos h]; exact ih.trans (hstep s)
  | case2 s h => rw [funR_eq, dif_neg h]; exact hstep s
theorem tf_q3 (toks : List Tok) (len : Nat) (s : PS) : tf (q3 toks len s) = tf s := by
  unfold q3 q2 q1
  rw [tf_funR, tf_want, tf_keyR, tf_want]
  split
  · rw [tf_byR]; rfl
  · rfl
theorem top_good {toks : List Tok} (hT : GoodToks toks) (s : PS) (h : tf s = (0, 0)) : goodNum (topS toks s).top ∧ goodNum (topS toks s).frm := by
  have h1 : (top1 toks s).frm = 0 := by
    have := tf_num toks { s with hasTop := true }
    have e : tf { s with hasTop := true } = (0, 0) := h
    rw [e] at this
    exact congrArg Prod.snd this
  unfold topS; split
  · refine ⟨?_, numV_good hT _⟩
    have e := congrArg Prod.fst (tf_num toks (top1 toks s).step)
    show goodNum (numS toks (top1 toks s).step).top
    have e' : (numS toks (top1 toks s).step).top = (top1 toks s).top := e
    rw [e']; exact numV_good hT _
  · exact ⟨numV_good hT _, by rw [h1]; exact zero_good⟩
theorem end_good {toks : List Tok} (hT : GoodToks toks) (len : Nat) :
    (∀ c ∈ (queryS toks len ps0).by', c < 3) ∧ (∀ c ∈ (queryS toks len ps0).keys, c.1 < 3) ∧ (∀ c ∈ (queryS toks len ps0).funcs, goodFn c) ∧ goodNum (queryS toks len ps0).top ∧ goodNum (queryS toks len ps0).frm := by
  have hb : ∀ c ∈ (q3 toks len ps0).by', c < 3 := by
    unfold q3 q2 q1
    rw [(funR_same _ _ _).1, (same_want _ _ _).by', (keyR_same _ _ _).1, (same_want _ _ _).by']
    split
    · exact byR_good _ _ _ (by simp [ps0, PS.step])
    · simp [ps0]
  have hk : ∀ c ∈ (q3 toks len ps0).keys, c.1 < 3 := by
    unfold q3 q2
    rw [(funR_same _ _ _).2, (same_want _ _ _).keys]
    refine keyR_good _ _ _ ?_
    rw [(same_want _ _ _).keys, (q1_same _ _ _).1]; simp [ps0]
  have hf : ∀ c ∈ (q3 toks len ps0).funcs, goodFn c := by
    unfold q3
    refine funR_good hT _ _ ?_
    rw [(same_want _ _ _).funcs, q2_same]; simp [ps0]
  have ht : tf (q3 toks len ps0) = (0, 0) := tf_q3 toks len ps0
  have he := same_end toks (q4 toks len ps0)
  have het := tf_end toks (q4 toks len ps0)
  have e1 : (queryS toks len ps0).top = (q4 toks len ps0).top := congrArg Prod.fst het
  have e2 : (queryS toks len ps0).frm = (q4 toks len ps0).frm := congrArg Prod.snd het
  rw [e1, e2]
  have e3 : (queryS toks len ps0).by' = (q4 toks len ps0).by' := he.by'
  have e4 : (queryS toks len ps0).keys = (q4 toks len ps0).keys := he.keys
  have e5 : (queryS toks len ps0).funcs = (q4 toks len ps0).funcs := he.funcs
  rw [e3, e4, e5]
  clear e1 e2 e3 e4 e5 he het
  unfold q4
  split
  · have hs := same_top toks (q3 toks len ps0).step
    have hg := top_good hT (q3 toks len ps0).step ht
    rw [hs.by', hs.keys, hs.funcs]
    exact ⟨hb, hk, hf, hg.1, hg.2⟩
  · have e1 : (q3 toks len ps0).top = 0 := congrArg Prod.fst ht
    have e2 : (q3 toks len ps0).frm = 0 := congrArg Prod.snd ht
    rw [e1, e2]
    exact ⟨hb, hk, hf, zero_good, zero_good⟩
end Pq
end Go.Proofs.YtcoofnhdbejnpabGreatDoor

/- Plain functions: what the tokens of a query that is read without a failure are. -/
namespace Go.Proofs.YtcoofnhdbejnpabGreatDoor
namespace Pr
open Pq
/-- these tokens stand from the place i on -/
def At (toks : List Tok) (i : Nat) (l : List Tok) : Prop := ∃ r, toks.drop i = l ++ r
theorem At.one {toks : List Tok} {i : Nat} {x : Tok} (h : toks[i]? = some x) : At toks i [x] := by
  have hl : i < toks.length := by
    rcases Nat.lt_or_ge i toks.length with h' | h'
    · exact h'
    · rw [List.getElem?_eq_none h'] at h; cases h
  rw [List.getElem?_eq_getElem hl] at h
  cases h
  exact ⟨toks.drop (i + 1), by rw [List.drop_eq_getElem_cons hl]; rfl⟩
theorem At.head {toks r : List Tok} {i : Nat} {x : Tok} (h : At toks i (x :: r)) : toks[i]? = some x := by
  obtain ⟨q, e⟩ := h
  have := congrArg List.head? e
  rw [List.head?_drop] at this
  exact this
/-- a token that is a number -/
structure NTok (x : Tok) : Prop where
  len : x.text.length ≤ 2
  dig : ∀ c ∈ x.text, isDig c = true
  ne : x.text ≠ []
/-! edges, frames, functions -/
def EdgeSeg (e : Edge) (l : List Tok) : Prop := ∀ M : Edge → List Tok → Prop, (∀ (x : Tok), x.text = wStart → M ⟨0, 0⟩ [x]) → (∀ (x : Tok), x.text = wEnd → M ⟨1, 0⟩ [x]) → (∀ (x : Tok), x.text = wHere → M ⟨2, 0⟩ [x]) → (∀ (x : Tok) (y : Tok), NTok x → y.text = wBack → M ⟨3, worth x.text⟩ [x, y]) → (∀ (x : Tok) (y : Tok), NTok x → y.text = wOn → M ⟨4, worth x.text⟩ [x, y]) → M e l
theorem EdgeSeg.on (x : Tok) (y : Tok) (hx : NTok x) (hy : y.text = wOn) : EdgeSeg ⟨4, worth x.text⟩ [x, y] := fun _ _ _ _ _ r4 => r4 x y hx hy
def FrameSeg (f : Frame) (l : List Tok) : Prop := ∀ M : Frame → List Tok → Prop, (∀ (x : Tok), x.text = wAll → M ⟨0, 0, ⟨0, 0⟩, ⟨0, 0⟩⟩ [x]) → (∀ (x : Tok), x.text = wPeers → M ⟨1, 0, ⟨0, 0⟩, ⟨0, 0⟩⟩ [x]) → (∀ (x : Tok) (y : Tok), x.text = wNear → NTok y → M ⟨2, worth y.text, ⟨0, 0⟩, ⟨0, 0⟩⟩ [x, y]) → (∀ (a : Edge) (b : Edge) (l : List Tok) (m : List Tok) (x : Tok), EdgeSeg a l → x.text = wTo → EdgeSeg b m → M ⟨3, 0, a, b⟩ (l ++ x :: m)) → M f l
theorem FrameSeg.all (x : Tok) (h : x.text = wAll) : FrameSeg ⟨0, 0, ⟨0, 0⟩, ⟨0, 0⟩⟩ [x] := fun _ r0 _ _ _ => r0 x h
def FnSeg (f : Fn) (l : List Tok) : Prop := ∀ M : Fn → List Tok → Prop, (∀ (k : Nat) (x : Tok), k < 3 → x.text = kindTxt k → M ⟨k, 0, 0, fr0⟩ [x]) → (∀ (x : Tok) (a : Tok) (y : Tok) (b : Tok), x.text = kindTxt 3 → a.text = wOpen → NTok y → b.text = wClose → M ⟨3, 0, worth y.text, fr0⟩ [x, a, y, b]) → (∀ (k : Nat) (c : Nat) (x : Tok) (a : Tok) (p : Tok) (q : Tok) (y : Tok) (b : Tok), 3 < k → k < 6 → c < 3 → x.text = kindTxt k → a.text = wOpen → p.text = colTxt c → q.text = wComma → NTok y → b.text = wClose → M ⟨k, c, worth y.text, fr0⟩ [x, a, p, q, y, b]) → (∀ (k : Nat) (c : Nat) (f : Frame) (x : Tok) (a : Tok) (p : Tok) (q : Tok) (b : Tok) (l : List Tok), 5 < k → k < 12 → c < 3 → x.text = kindTxt k → a.text = wOpen → p.text = colTxt c → q.text = wComma → FrameSeg f l → b.text = wClose → M ⟨k, c, 0, f⟩ (x :: a :: p :: q :: (l ++ [b]))) → M f l
theorem FnSeg.word (k : Nat) (x : Tok) (hk : k < 3) (hx : x.text = kindTxt k) : FnSeg ⟨k, 0, 0, fr0⟩ [x] := fun _ r0 _ _ _ => r0 k x hk hx
end Pr
end Go.Proofs.YtcoofnhdbejnpabGreatDoor

/- Plain functions: what the tokens of a query that is read without a failure are: lists, and the whole. -/
namespace Go.Proofs.YtcoofnhdbejnpabGreatDoor
namespace Pr
open Pq
def ColsSeg (cs : List Nat) (l : List Tok) : Prop := ∀ M : List Nat → List Tok → Prop, (∀ (c : Nat) (x : Tok), c < 3 → x.text = colTxt c → M [c] [x]) → (∀ (c : Nat) (x : Tok) (y : Tok) (cs : List Nat) (l : List Tok), c < 3 → x.text = colTxt c → y.text = wComma → M cs l → M (c :: cs) (x :: y :: l)) → M cs l
theorem ColsSeg.one (c : Nat) (x : Tok) (hc : c < 3) (hx : x.text = colTxt c) : ColsSeg [c] [x] := fun _ r0 _ => r0 c x hc hx
theorem ColsSeg.more (c : Nat) (x : Tok) (y : Tok) (cs : List Nat) (l : List Tok) (hc : c < 3) (hx : x.text = colTxt c) (hy : y.text = wComma) (h : ColsSeg cs l) : ColsSeg (c :: cs) (x :: y :: l) := fun M r0 r1 => r1 c x y cs l hc hx hy (h M r0 r1)
theorem ColsSeg_ind {motive : (cs : List Nat) → (l : List Tok) → ColsSeg cs l → Prop} (one : ∀ (c : Nat) (x : Tok) (hc : c < 3) (hx : x.text = colTxt c), motive [c] [x] (ColsSeg.one c x hc hx)) (more : ∀ (c : Nat) (x : Tok) (y : Tok) (cs : List Nat) (l : List Tok) (hc : c < 3) (hx : x.text = colTxt c) (hy : y.text = wComma) (h : ColsSeg cs l), motive cs l h → motive (c :: cs) (x :: y :: l) (ColsSeg.more c x y cs l hc hx hy h)) (cs : List Nat) (l : List Tok) (h : ColsSeg cs l) : motive cs l h := by
  obtain ⟨_, q⟩ := h (fun cs l => ∃ h : ColsSeg cs l, motive cs l h) (fun c x hc hx => ⟨_, one c x hc hx⟩) (fun c x y cs l hc hx hy ⟨h, q_h⟩ => ⟨_, more c x y cs l hc hx hy h q_h⟩)
  exact q
def KeySeg (k : Nat × Bool) (l : List Tok) : Prop := ∀ M : Nat × Bool → List Tok → Prop, (∀ (c : Nat) (x : Tok), c < 3 → x.text = colTxt c → M (c, false) [x]) → (∀ (c : Nat) (x : Tok) (y : Tok), c < 3 → x.text = colTxt c → y.text = wDesc → M (c, true) [x, y]) → M k l
def KeysSeg (ks : List (Nat × Bool)) (l : List Tok) : Prop := ∀ M : List (Nat × Bool) → List Tok → Prop, (∀ (k : Nat × Bool) (l : List Tok), KeySeg k l → M [k] l) → (∀ (k : Nat × Bool) (l : List Tok) (y : Tok) (ks : List (Nat × Bool)) (m : List Tok), KeySeg k l → y.text = wComma → M ks m → M (k :: ks) (l ++ y :: m)) → M ks l
theorem KeysSeg.one (k : Nat × Bool) (l : List Tok) (hk : KeySeg k l) : KeysSeg [k] l := fun _ r0 _ => r0 k l hk
theorem KeysSeg.more (k : Nat × Bool) (l : List Tok) (y : Tok) (ks : List (Nat × Bool)) (m : List Tok) (hk : KeySeg k l) (hy : y.text = wComma) (h : KeysSeg ks m) : KeysSeg (k :: ks) (l ++ y :: m) := fun M r0 r1 => r1 k l y ks m hk hy (h M r0 r1)
def FunsSeg (fs : List Fn) (segs : List (List Tok)) (l : List Tok) : Prop := ∀ M : List Fn → List (List Tok) → List Tok → Prop, (∀ (f : Fn) (l : List Tok), FnSeg f l → M [f] [l] l) → (∀ (f : Fn) (l : List Tok) (y : Tok) (fs : List Fn) (segs : List (List Tok)) (m : List Tok), FnSeg f l → y.text = wComma → M fs segs m → M (f :: fs) (l :: segs) (l ++ y :: m)) → M fs segs l
theorem FunsSeg.one (f : Fn) (l : List Tok) (hf : FnSeg f l) : FunsSeg [f] [l] l := fun _ r0 _ => r0 f l hf
theorem FunsSeg.more (f : Fn) (l : List Tok) (y : Tok) (fs : List Fn) (segs : List (List Tok)) (m : List Tok) (hf : FnSeg f l) (hy : y.text = wComma) (h : FunsSeg fs segs m) : FunsSeg (f :: fs) (l :: segs) (l ++ y :: m) := fun M r0 r1 => r1 f l y fs segs m hf hy (h M r0 r1)
def TopSeg (ht : Bool) (tp : Int) (fr : Int) (tl : List Tok) : Prop := ∀ M : Bool → Int → Int → List Tok → Prop, (M false 0 0 []) → (∀ (x : Tok) (y : Tok), x.text = wTop → NTok y → M true (worth y.text) 0 [x, y]) → (∀ (x : Tok) (y : Tok) (a : Tok) (b : Tok), x.text = wTop → NTok y → a.text = wFrom → NTok b → M true (worth y.text) (worth b.text) [x, y, a, b]) → M ht tp fr tl
theorem TopSeg.none  : TopSeg false 0 0 [] := fun _ r0 _ _ => r0 
theorem TopSeg.top (x : Tok) (y : Tok) (hx : x.text = wTop) (hy : NTok y) : TopSeg true (worth y.text) 0 [x, y] := fun _ _ r1 _ => r1 x y hx hy
theorem TopSeg.frm (x : Tok) (y : Tok) (a : Tok) (b : Tok) (hx : x.text = wTop) (hy : NTok y) (ha : a.text = wFrom) (hb : NTok b) : TopSeg true (worth y.text) (worth b.text) [x, y, a, b] := fun _ _ _ r2 => r2 x y a b hx hy ha hb
/-- these texts hold just the columns that q tells -/
def Seen (seen : List Bytes) (q : Nat → Bool) : Prop := ∀ c, c < 3 → seen.contains (colTxt c) = q c
theorem Seen.of {seen : List Bytes} {q q' : Nat → Bool} (h : Seen seen q) (e : ∀ c, q c = q' c) : Seen seen q' := fun c hc => (h c hc).trans (e c)
/-! the whole -/
structure Parts where
  cs : List Nat
  ks : List (Nat × Bool)
  fs : List Fn
  hasTop : Bool
  top : Int
  frm : Int
  bh : List Tok
  bl : List Tok
  o : Tok
  kl : List Tok
  sh : Tok
  segs : List (List Tok)
  fl : List Tok
  tl : List Tok
structure PartsOk (toks : List Tok) (P : Parts) : Prop where
  toks : toks = P.bh ++ (P.bl ++ P.o :: (P.kl ++ P.sh :: (P.fl ++ P.tl)))
  by' : (P.bh = [] ∧ P.bl = [] ∧ P.cs = []) ∨ ∃ x, P.bh = [x] ∧ x.text = wBy ∧ ColsSeg P.cs P.bl
  o : P.o.text = wOrder
  keys : KeysSeg P.ks P.kl
  sh : P.sh.text = wShow
  funs : FunsSeg P.fs P.segs P.fl
  top : TopSeg P.hasTop P.top P.frm P.tl
end Pr
end Go.Proofs.YtcoofnhdbejnpabGreatDoor

/- Plain functions: the plain form out of the tokens; where a word stands among them; how they are cut. -/
namespace Go.Proofs.YtcoofnhdbejnpabGreatDoor
namespace Pr
open Pq
/-- without noughts ahead -/
def short : Bytes → Bytes
  | [] => []
  | [a] => [a]
  | a :: b :: r => if a == 48 then short (b :: r) else a :: b :: r
def heads : List Bytes := [wBy, wOrder, wShow, wTop, wFrom]
/-- neither a head word nor a sign -/
structure Inner (x : Tok) : Prop where
  head : x.text ∉ heads
theorem Inner.ne {x : Tok} (h : Inner x) {w : Bytes} (hw : w ∈ heads) : (x.text == w) = false := by
  simp only [beq_eq_false_iff_ne]; exact fun e => h.head (e ▸ hw)
structure Word (x : Tok) : Prop where
  opn : (x.text == wOpen) = false
  cls : (x.text == wClose) = false
  com : (x.text == wComma) = false
theorem Inner.of {x : Tok} {t : Bytes} (h : x.text = t) (ht : t ∉ heads) : Inner x := ⟨by rw [h]; exact ht⟩
theorem Word.of {x : Tok} {t : Bytes} (h : x.text = t) (h1 : (t == wOpen) = false) (h2 : (t == wClose) = false) (h3 : (t == wComma) = false) : Word x := ⟨by rw [h]; exact h1, by rw [h]; exact h2, by rw [h]; exact h3⟩
theorem NTok.numT {x : Tok} (h : NTok x) : numT x.text = true := by
  have h2 := h.dig; have h3 := h.ne
  cases ht : x.text with
  | nil => exact absurd ht h3
  | cons a r => rw [ht] at h2; exact h2 a (by simp)
theorem NTok.not {x : Tok} (h : NTok x) {t : Bytes} (ht : Pr.numT t = false) : x.text ≠ t := by
  intro e; have := h.numT; rw [e, ht] at this; cases this
theorem NTok.word {x : Tok} (h : NTok x) : Word x := ⟨by simpa using h.not (t := wOpen) (by decide), by simpa using h.not (t := wClose) (by decide), by simpa using h.not (t := wComma) (by decide)⟩
theorem col_ok : ∀ k, k < 3 → colTxt k ∉ heads ∧ (colTxt k == wOpen) = false ∧ (colTxt k == wClose) = false ∧ (colTxt k == wComma) = false ∧ short (colTxt k) = colTxt k := by decide
/-! edges, frames, functions -/
/-! lists -/
theorem cols_in {cs : List Nat} {l : List Tok} (h : ColsSeg cs l) : ∀ x ∈ l, Inner x := by
  induction cs, l, h using ColsSeg_ind with
  | one c x hc hx => intro z hz; cases List.mem_singleton.1 hz; exact .of hx (col_ok _ hc).1
  | more c x y cs l hc hx hy h ih =>
    intro z hz
    simp only [List.mem_cons] at hz
    rcases hz with rfl | rfl | hz
    · exact .of hx (col_ok _ hc).1
    · exact .of hy (by decide)
    · exact ih z hz
end Pr
end Go.Proofs.YtcoofnhdbejnpabGreatDoor

/- Plain functions: the whole query's tokens: the plain form, the places of the words, the cut. -/
namespace Go.Proofs.YtcoofnhdbejnpabGreatDoor
namespace Pr
open Pq
/-! where a word stands -/
def findT (t : Bytes) (l : List Tok) : Nat := l.findIdx (fun x => x.text == t)
theorem findT_skip {t : Bytes} {a b : List Tok} (h : ∀ x ∈ a, (x.text == t) = false) : findT t (a ++ b) = a.length + findT t b := by
  induction a with
  | nil => simp
  | cons x a ih =>
    have hx := h x (by simp)
    have := ih (fun y hy => h y (by simp [hy]))
    unfold findT at *
    rw [List.cons_append, List.findIdx_cons, hx]
    simp only [cond_false, List.length_cons, this]; omega
theorem findT_hit {t : Bytes} {x : Tok} {b : List Tok} (h : x.text = t) : findT t (x :: b) = 0 := by
  unfold findT; rw [List.findIdx_cons]; simp [h]
theorem mem_heads : wBy ∈ heads ∧ wOrder ∈ heads ∧ wShow ∈ heads ∧ wTop ∈ heads ∧ wFrom ∈ heads := by decide
/-- the tokens' number ahead of order, of show, and of what is behind the FUNCs -/
def Parts.nO (P : Parts) : Nat := P.bh.length + P.bl.length
def Parts.nS (P : Parts) : Nat := P.nO + 1 + P.kl.length
def Parts.nT (P : Parts) : Nat := P.nS + 1 + P.fl.length
theorem PartsOk.by_in {toks : List Tok} {P : Parts} (h : PartsOk toks P) {t : Bytes} (ht : t ∈ heads) (hn : wBy ≠ t) : (∀ x ∈ P.bh, (x.text == t) = false) ∧ ∀ x ∈ P.bl, (x.text == t) = false := by
  rcases h.by' with ⟨h1, h2, _⟩ | ⟨x, h1, h2, h3⟩
  · rw [h1, h2]; exact ⟨(fun _ q => by cases q), (fun _ q => by cases q)⟩
  · rw [h1]
    refine ⟨fun y hy => ?_, fun y hy => (cols_in h3 y hy).ne ht⟩
    cases List.mem_singleton.1 hy
    rw [h2]; simpa using hn
theorem PartsOk.order {toks : List Tok} {P : Parts} (h : PartsOk toks P) : findT wOrder toks = P.nO := by
  have hb := h.by_in mem_heads.2.1 (by decide)
  rw [h.toks, findT_skip hb.1, findT_skip hb.2, findT_hit h.o]; rfl
theorem PartsOk.len {toks : List Tok} {P : Parts} (h : PartsOk toks P) : toks.length = P.nT + P.tl.length := by
  rw [h.toks]; simp only [Parts.nT, Parts.nS, Parts.nO, List.length_append, List.length_cons]; omega
/-! the plain form -/
/-! the cut of the FUNCs -/
/-! many and arg -/
end Pr
end Go.Proofs.YtcoofnhdbejnpabGreatDoor

/- Plain functions: the order of a line by the KEYs, the parts by the COLs of by. -/
namespace Go.Proofs.YtcoofnhdbejnpabGreatDoor
namespace Pv
open Pq Pr
/-- a column, by its number -/
def colV (c : Nat) (r : R3) : Int := if c = 0 then r.1 else if c = 1 then r.2.1 else r.2.2
def beforeK : List (Nat × Bool) → R3 → R3 → Bool
  | [], _, _ => false
  | (c, d) :: ks, a, b => if colV c a = colV c b then beforeK ks a b else if d then decide (colV c b < colV c a) else decide (colV c a < colV c b)
/-- are two rows in one part -/
def matesC (cs : List Nat) (a b : R3) : Bool := cs.all (fun c => decide (colV c a = colV c b))
/-- a copy of a row: which one of its row it is -/
abbrev Cpy := R3 × Nat
def aheadF (ks : List (Nat × Bool)) (a b : Cpy) : Bool :=
  if beforeK ks a.1 b.1 || beforeK ks b.1 a.1 then beforeK ks a.1 b.1
  else if lower a.1 b.1 || lower b.1 a.1 then lower a.1 b.1
  else decide (a.2 < b.2)
/-- the copies of a table that are in one part with a row -/
def copiesF (cs : List Nat) (t : List Chg) (r : R3) : List Cpy := t.flatMap (fun c => if matesC cs c.1 r then (List.range c.2.toNat).map (fun k => (c.1, k)) else [])
def lineF (ks : List (Nat × Bool)) (cs : List Nat) (t : List Chg) (r : R3) : List Cpy := place (aheadF ks) ((0, 0, 0), 0) (copiesF cs t r)
end Pv
end Go.Proofs.YtcoofnhdbejnpabGreatDoor

