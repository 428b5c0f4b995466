/- Plain functions: the parser's loops, and the whole. -/
import Derived.Test.YtjmogpgccnljdaaDoorSq
namespace Go.Proofs.YtjmogpgccnljdaaDoor
namespace Pq
def wBy : Bytes := [98, 121]
def wOrder : Bytes := [111, 114, 100, 101, 114]
def wShow : Bytes := [115, 104, 111, 119]
def wTop : Bytes := [116, 111, 112]
def wFrom : Bytes := [102, 114, 111, 109]
def wDesc : Bytes := [100, 101, 115, 99]
def hasC (l : List Nat) (c : Nat) : Bool := l.contains c
def hasK (l : List (Nat × Bool)) (c : Nat) : Bool := l.any (fun k => k.1 == c)
theorem hasC_true {l : List Nat} {c k : Nat} (hk : k < l.length) (h : l[k] = c) : hasC l c = true := by
  unfold hasC; rw [List.contains_iff_mem, ← h]; exact List.getElem_mem hk
theorem hasC_false {l : List Nat} {c : Nat} (h : ∀ j (hj : j < l.length), l[j] ≠ c) : hasC l c = false := by
  unfold hasC; rw [Bool.eq_false_iff]; intro hm
  rw [List.contains_iff_mem] at hm
  obtain ⟨j, hj, e⟩ := List.getElem_of_mem hm
  exact h j hj e
theorem hasK_true {l : List (Nat × Bool)} {c k : Nat} (hk : k < l.length) (h : l[k].1 = c) : hasK l c = true := by
  unfold hasK; rw [List.any_eq_true]; exact ⟨l[k], List.getElem_mem hk, by simp [h]⟩
theorem hasK_false {l : List (Nat × Bool)} {c : Nat} (h : ∀ j (hj : j < l.length), l[j].1 ≠ c) : hasK l c = false := by
  unfold hasK; rw [Bool.eq_false_iff]; intro hm
  rw [List.any_eq_true] at hm
  obtain ⟨x, hx, e⟩ := hm
  obtain ⟨j, hj, e'⟩ := List.getElem_of_mem hx
  exact h j hj (by rw [e']; simpa using e)
theorem takes_lt {toks : List Tok} {t : Bytes} {s : PS} (h : takes toks t s = true) : s.next < toks.length := by
  unfold takes at h
  rcases Nat.lt_or_ge s.next toks.length with h' | h'
  · exact h'
  · rw [List.getElem?_eq_none h'] at h; simp at h
theorem oneOfS_next (toks : List Tok) (txt : Nat → Bytes) (n : Nat) (s : PS) : s.next ≤ (oneOfS toks txt n s).next := by
  unfold oneOfS; split <;> simp [PS.step, PS.fail]
theorem wantS_next (toks : List Tok) (t : Bytes) (s : PS) : s.next ≤ (wantS toks t s).next := by unfold wantS; split <;> simp [PS.step, PS.fail]
theorem takeS_next (toks : List Tok) (t : Bytes) (s : PS) : s.next ≤ (takeS toks t s).next := by unfold takeS; split <;> simp [PS.step]
theorem numS_next (toks : List Tok) (s : PS) : s.next ≤ (numS toks s).next := by unfold numS; split <;> simp [PS.step, PS.fail]
theorem tileS_next (toks : List Tok) (len : Nat) (s : PS) : s.next ≤ (tileS toks len s).next := by unfold tileS; split <;> exact numS_next toks s
theorem twiceS_next (n : Int) (s : PS) : (twiceS n s).next = s.next := by unfold twiceS; split <;> rfl
theorem edgeR_next (toks : List Tok) (s : PS) : s.next ≤ (edgeR toks s).2.next := by
  unfold edgeR
  have h1 := numS_next toks s; have h2 := wantS_next toks wOn (numS toks s)
  repeat' split
  all_goals first | (simp [PS.step]; done) | (simp [PS.step]; omega) | (simp only []; omega)
theorem frameR_next (toks : List Tok) (s : PS) : s.next ≤ (frameR toks s).2.next := by
  unfold frameR
  have h1 := numS_next toks s.step; have h2 := edgeR_next toks s; have h3 := wantS_next toks wTo (edgeR toks s).2; have h4 := edgeR_next toks (wantS toks wTo (edgeR toks s).2)
  have h5 : s.step.next = s.next + 1 := rfl
  repeat' split
  all_goals first | (simp [PS.step]; done) | (simp only []; omega)
theorem colComma_next (toks : List Tok) (s : PS) : s.next ≤ (colComma toks s).next := by
  unfold colComma
  have h1 := wantS_next toks wOpen s; have h2 := oneOfS_next toks colTxt 3 (wantS toks wOpen s); have h3 := wantS_next toks wComma (oneOfS toks colTxt 3 (wantS toks wOpen s))
  omega
theorem funcR_next (toks : List Tok) (len : Nat) (s : PS) : s.next ≤ (funcR toks len s).2.next := by
  have h0 := oneOfS_next toks kindTxt 12 s
  unfold funcR
  generalize oneOfS toks kindTxt 12 s = s1 at *
  have h1 := wantS_next toks wOpen s1; have h2 := tileS_next toks len (wantS toks wOpen s1); have h3 := wantS_next toks wClose (tileS toks len (wantS toks wOpen s1))
  have h4 := colComma_next toks s1; have h5 := numS_next toks (colComma toks s1); have h6 := wantS_next toks wClose (numS toks (colComma toks s1))
  have h7 := frameR_next toks (colComma toks s1); have h8 := wantS_next toks wClose (frameR toks (colComma toks s1)).2
  repeat' split
  all_goals (simp only [tileR, lagR, overR]; omega)
/-! which fields a step leaves alone -/
structure Same (s s' : PS) : Prop where
  by' : s'.by' = s.by'
  keys : s'.keys = s.keys
  funcs : s'.funcs = s.funcs
theorem Same.refl (s : PS) : Same s s := ⟨rfl, rfl, rfl⟩
theorem Same.trans {a b c : PS} (h : Same a b) (k : Same b c) : Same a c := ⟨k.by'.trans h.by', k.keys.trans h.keys, k.funcs.trans h.funcs⟩
theorem same_oneOf (toks : List Tok) (txt : Nat → Bytes) (n : Nat) (s : PS) : Same s (oneOfS toks txt n s) := by unfold oneOfS; split <;> exact ⟨rfl, rfl, rfl⟩
theorem same_want (toks : List Tok) (t : Bytes) (s : PS) : Same s (wantS toks t s) := by unfold wantS; split <;> exact ⟨rfl, rfl, rfl⟩
theorem same_take (toks : List Tok) (t : Bytes) (s : PS) : Same s (takeS toks t s) := by unfold takeS; split <;> exact ⟨rfl, rfl, rfl⟩
theorem same_num (toks : List Tok) (s : PS) : Same s (numS toks s) := by unfold numS; split <;> exact ⟨rfl, rfl, rfl⟩
theorem same_tile (toks : List Tok) (len : Nat) (s : PS) : Same s (tileS toks len s) := by
  have h := same_num toks s
  unfold tileS; split
  · exact ⟨h.by', h.keys, h.funcs⟩
  · exact h
theorem same_twice (n : Int) (s : PS) : Same s (twiceS n s) := by unfold twiceS; split <;> exact ⟨rfl, rfl, rfl⟩
theorem same_step (s : PS) : Same s s.step := ⟨rfl, rfl, rfl⟩
theorem same_end (toks : List Tok) (s : PS) : Same s (endS toks s) := by unfold endS; split <;> exact ⟨rfl, rfl, rfl⟩
theorem same_edge (toks : List Tok) (s : PS) : Same s (edgeR toks s).2 := by
  unfold edgeR
  repeat' split
  all_goals first | exact same_step s | exact (same_num toks s).trans (same_step _) | exact (same_num toks s).trans (same_want _ _ _)
theorem same_frame (toks : List Tok) (s : PS) : Same s (frameR toks s).2 := by
  unfold frameR
  repeat' split
  all_goals first | exact same_step s | exact (same_step s).trans (same_num _ _) | exact ((same_edge toks s).trans (same_want _ _ _)).trans (same_edge _ _)
theorem same_colComma (toks : List Tok) (s : PS) : Same s (colComma toks s) := ((same_want _ _ _).trans (same_oneOf _ _ _ _)).trans (same_want _ _ _)
theorem same_func (toks : List Tok) (len : Nat) (s : PS) : Same s (funcR toks len s).2 := by
  have h0 := same_oneOf toks kindTxt 12 s
  unfold funcR
  generalize oneOfS toks kindTxt 12 s = s1 at *
  repeat' split
  · exact h0
  · exact h0.trans (((same_want _ _ _).trans (same_tile _ _ _)).trans (same_want _ _ _))
  · exact h0.trans (((same_colComma _ _).trans (same_num _ _)).trans (same_want _ _ _))
  · exact h0.trans (((same_colComma _ _).trans (same_frame _ _)).trans (same_want _ _ _))
/-! the loops -/
def colAt (toks : List Tok) (s : PS) : Nat := oneOfV toks colTxt 3 s
def byMark (toks : List Tok) (len : Nat) (s : PS) : PS := if hasC s.by' (colAt toks s) then twiceS (placeS toks len s) (oneOfS toks colTxt 3 s) else oneOfS toks colTxt 3 s
def byStep (toks : List Tok) (len : Nat) (s : PS) : PS := { byMark toks len s with by' := s.by' ++ [colAt toks s] }
def keySt (toks : List Tok) (s : PS) : PS := takeS toks wDesc (oneOfS toks colTxt 3 s)
def keyDesc (toks : List Tok) (s : PS) : Bool := takes toks wDesc (oneOfS toks colTxt 3 s)
def keyMark (toks : List Tok) (len : Nat) (s : PS) : PS := if hasK s.keys (colAt toks s) then twiceS (placeS toks len s) (keySt toks s) else keySt toks s
def keyStep (toks : List Tok) (len : Nat) (s : PS) : PS := { keyMark toks len s with keys := s.keys ++ [(colAt toks s, keyDesc toks s)] }
def funMark (toks : List Tok) (len : Nat) (s : PS) : PS := if s.funcs.length = 4 then { s with many := placeS toks len s } else s
def funStep (toks : List Tok) (len : Nat) (s : PS) : PS := { (funcR toks len (funMark toks len s)).2 with funcs := s.funcs ++ [(funcR toks len (funMark toks len s)).1] }
theorem byStep_next (toks : List Tok) (len : Nat) (s : PS) : s.next ≤ (byStep toks len s).next := by
  have h := oneOfS_next toks colTxt 3 s
  simp only [byStep, byMark]; split
  · rw [twiceS_next]; exact h
  · exact h
theorem keyStep_next (toks : List Tok) (len : Nat) (s : PS) : s.next ≤ (keyStep toks len s).next := by
  have h := oneOfS_next toks colTxt 3 s; have h2 := takeS_next toks wDesc (oneOfS toks colTxt 3 s)
  simp only [keyStep, keyMark, keySt]; split
  · rw [twiceS_next]; omega
  · omega
theorem funStep_next (toks : List Tok) (len : Nat) (s : PS) : s.next ≤ (funStep toks len s).next := by
  have h := funcR_next toks len (funMark toks len s)
  have h2 : (funMark toks len s).next = s.next := by unfold funMark; split <;> rfl
  simp only [funStep]; omega
def byR (toks : List Tok) (len : Nat) (s : PS) : PS := if _h : takes toks wComma (byStep toks len s) = true then byR toks len (byStep toks len s).step else byStep toks len s
  termination_by toks.length - s.next
  decreasing_by have h1 := takes_lt _h; have h2 := byStep_next toks len s; simp only [PS.step]; omega
def keyR (toks : List Tok) (len : Nat) (s : PS) : PS := if _h : takes toks wComma (keyStep toks len s) = true then keyR toks len (keyStep toks len s).step else keyStep toks len s
  termination_by toks.length - s.next
  decreasing_by have h1 := takes_lt _h; have h2 := keyStep_next toks len s; simp only [PS.step]; omega
def funR (toks : List Tok) (len : Nat) (s : PS) : PS := if _h : takes toks wComma (funStep toks len s) = true then funR toks len (funStep toks len s).step else funStep toks len s
  termination_by toks.length - s.next
  decreasing_by have h1 := takes_lt _h; have h2 := funStep_next toks len s; simp only [PS.step]; omega
def top1 (toks : List Tok) (s : PS) : PS := { numS toks { s with hasTop := true } with top := numV toks { s with hasTop := true } }
def topS (toks : List Tok) (s : PS) : PS := if takes toks wFrom (top1 toks s) then { numS toks (top1 toks s).step with frm := numV toks (top1 toks s).step } else top1 toks s
def q1 (toks : List Tok) (len : Nat) (s : PS) : PS := if takes toks wBy s then byR toks len s.step else s
def q2 (toks : List Tok) (len : Nat) (s : PS) : PS := keyR toks len (wantS toks wOrder (q1 toks len s))
def q3 (toks : List Tok) (len : Nat) (s : PS) : PS := funR toks len (wantS toks wShow (q2 toks len s))
def q4 (toks : List Tok) (len : Nat) (s : PS) : PS := if takes toks wTop (q3 toks len s) then topS toks (q3 toks len s).step else q3 toks len s
def queryS (toks : List Tok) (len : Nat) (s : PS) : PS := endS toks (q4 toks len s)
end Pq
end Go.Proofs.YtjmogpgccnljdaaDoor
