/- Plain functions: the parser's loops, and the whole. -/
import Derived.Test.YtcoofnhdbejnpaaGreatDoorG00
namespace Go.Proofs.YtcoofnhdbejnpaaGreatDoor
namespace Pq
def wBy : Bytes := [98, 121]
def wOrder : Bytes := [111, 114, 100, 101, 114]
def wShow : Bytes := [115, 104, 111, 119]
def wTop : Bytes := [116, 111, 112]
def wFrom : Bytes := [102, 114, 111, 109]
def wDesc : Bytes := [100, 101, 115, 99]
def hasC (l : List Nat) (c : Nat) : Bool := l.contains c
def hasK (l : List (Nat × Bool)) (c : Nat) : Bool := l.any (fun k => k.1 == c)
theorem hasC_true {l : List Nat} {c k : Nat} (hk : k < l.length) (h : l[k] = c) : hasC l c = true := by
  unfold hasC; rw [List.contains_iff_mem, ← h]; exact List.getElem_mem hk
theorem hasC_false {l : List Nat} {c : Nat} (h : ∀ j (hj : j < l.length), l[j] ≠ c) : hasC l c = false := by
  unfold hasC; rw [Bool.eq_false_iff]; intro hm
  rw [List.contains_iff_mem] at hm
  obtain ⟨j, hj, e⟩ := List.getElem_of_mem hm
  exact h j hj e
theorem hasK_true {l : List (Nat × Bool)} {c k : Nat} (hk : k < l.length) (h : l[k].1 = c) : hasK l c = true := by
  unfold hasK; rw [List.any_eq_true]; exact ⟨l[k], List.getElem_mem hk, by simp [h]⟩
theorem hasK_false {l : List (Nat × Bool)} {c : Nat} (h : ∀ j (hj : j < l.length), l[j].1 ≠ c) : hasK l c = false := by
  unfold hasK; rw [Bool.eq_false_iff]; intro hm
  rw [List.any_eq_true] at hm
  obtain ⟨x, hx, e⟩ := hm
  obtain ⟨j, hj, e'⟩ := List.getElem_of_mem hx
  exact h j hj (by rw [e']; simpa using e)
theorem takes_lt {toks : List Tok} {t : Bytes} {s : PS} (h : takes toks t s = true) : s.next < toks.length := by
  unfold takes at h
  rcases Nat.lt_or_ge s.next toks.length with h' | h'
  · exact h'
  · rw [List.getElem?_eq_none h'] at h; simp at h
theorem oneOfS_next (toks : List Tok) (txt : Nat → Bytes) (n : Nat) (s : PS) : s.next ≤ (oneOfS toks txt n s).next := by
  unfold oneOfS; split <;> simp [PS.step, PS.fail]
theorem wantS_next (toks : List Tok) (t : Bytes) (s : PS) : s.next ≤ (wantS toks t s).next := by unfold wantS; split <;> simp [PS.step, PS.fail]
theorem takeS_next (toks : List Tok) (t : Bytes) (s : PS) : s.next ≤ (takeS toks t s).next := by unfold takeS; split <;> simp [PS.step]
theorem numS_next (toks : List Tok) (s : PS) : s.next ≤ (numS toks s).next := by unfold numS; split <;> simp [PS.step, PS.fail]
theorem tileS_next (toks : List Tok) (len : Nat) (s : PS) : s.next ≤ (tileS toks len s).next := by unfold tileS; split <;> exact numS_next toks s
theorem twiceS_next (n : Int) (s : PS) : (twiceS n s).next = s.next := by unfold twiceS; split <;> rfl
theorem edgeR_next (toks : List Tok) (s : PS) : s.next ≤ (edgeR toks s).2.next := by
  unfold edgeR
  have h1 := numS_next toks s; have h2 := wantS_next toks wOn (numS toks s)
  repeat' split
  all_goals first | (simp [PS.step]; done) | (simp [PS.step]; omega) | (simp only []; omega)
theorem frameR_next (toks : List Tok) (s : PS) : s.next ≤ (frameR toks s).2.next := by
  unfold frameR
  have h1 := numS_next toks s.step; have h2 := edgeR_next toks s; have h3 := wantS_next toks wTo (edgeR toks s).2; have h4 := edgeR_next toks (wantS toks wTo (edgeR toks s).2)
  have h5 : s.step.next = s.next + 1 := rfl
  repeat' split
  all_goals first | (simp [PS.step]; done) | (simp only []; omega)
theorem colComma_next (toks : List Tok) (s : PS) : s.next ≤ (colComma toks s).next := by
  unfold colComma
  have h1 := wantS_next toks wOpen s; have h2 := oneOfS_next toks colTxt 3 (wantS toks wOpen s); have h3 := wantS_next toks wComma (oneOfS toks colTxt 3 (wantS toks wOpen s))
  omega
theorem funcR_next (toks : List Tok) (len : Nat) (s : PS) : s.next ≤ (funcR toks len s).2.next := by
  have h0 := oneOfS_next toks kindTxt 12 s
  unfold funcR
  generalize oneOfS toks kindTxt 12 s = s1 at *
  have h1 := wantS_next toks wOpen s1; have h2 := tileS_next toks len (wantS toks wOpen s1); have h3 := wantS_next toks wClose (tileS toks len (wantS toks wOpen s1))
  have h4 := colComma_next toks s1; have h5 := numS_next toks (colComma toks s1); have h6 := wantS_next toks wClose (numS toks (colComma toks s1))
  have h7 := frameR_next toks (colComma toks s1); have h8 := wantS_next toks wClose (frameR toks (colComma toks s1)).2
  repeat' split
  all_goals (simp only [tileR, lagR, overR]; omega)
/-! which fields a step leaves alone -/
structure Same (s s' : PS) : Prop where
  by' : s'.by' = s.by'
  keys : s'.keys = s.keys
  funcs : s'.funcs = s.funcs
theorem Same.refl (s : PS) : Same s s := ⟨rfl, rfl, rfl⟩
theorem Same.trans {a b c : PS} (h : Same a b) (k : Same b c) : Same a c := ⟨k.by'.trans h.by', k.keys.trans h.keys, k.funcs.trans h.funcs⟩
theorem same_oneOf (toks : List Tok) (txt : Nat → Bytes) (n : Nat) (s : PS) : Same s (oneOfS toks txt n s) := by unfold oneOfS; split <;> exact ⟨rfl, rfl, rfl⟩
theorem same_want (toks : List Tok) (t : Bytes) (s : PS) : Same s (wantS toks t s) := by unfold wantS; split <;> exact ⟨rfl, rfl, rfl⟩
theorem same_take (toks : List Tok) (t : Bytes) (s : PS) : Same s (takeS toks t s) := by unfold takeS; split <;> exact ⟨rfl, rfl, rfl⟩
theorem same_num (toks : List Tok) (s : PS) : Same s (numS toks s) := by unfold numS; split <;> exact ⟨rfl, rfl, rfl⟩
theorem same_tile (toks : List Tok) (len : Nat) (s : PS) : Same s (tileS toks len s) := by
  have h := same_num toks s
  unfold tileS; split
  · exact ⟨h.by', h.keys, h.funcs⟩
  · exact h
theorem same_twice (n : Int) (s : PS) : Same s (twiceS n s) := by unfold twiceS; split <;> exact ⟨rfl, rfl, rfl⟩
theorem same_step (s : PS) : Same s s.step := ⟨rfl, rfl, rfl⟩
theorem same_end (toks : List Tok) (s : PS) : Same s (endS toks s) := by unfold endS; split <;> exact ⟨rfl, rfl, rfl⟩
theorem same_edge (toks : List Tok) (s : PS) : Same s (edgeR toks s).2 := by
  unfold edgeR
  repeat' split
  all_goals first | exact same_step s | exact (same_num toks s).trans (same_step _) | exact (same_num toks s).trans (same_want _ _ _)
theorem same_frame (toks : List Tok) (s : PS) : Same s (frameR toks s).2 := by
  unfold frameR
  repeat' split
  all_goals first | exact same_step s | exact (same_step s).trans (same_num _ _) | exact ((same_edge toks s).trans (same_want _ _ _)).trans (same_edge _ _)
theorem same_colComma (toks : List Tok) (s : PS) : Same s (colComma toks s) := ((same_want _ _ _).trans (same_oneOf _ _ _ _)).trans (same_want _ _ _)
theorem same_func (toks : List Tok) (len : Nat) (s : PS) : Same s (funcR toks len s).2 := by
  have h0 := same_oneOf toks kindTxt 12 s
  unfold funcR
  generalize oneOfS toks kindTxt 12 s = s1 at *
  repeat' split
  · exact h0
  · exact h0.trans (((same_want _ _ _).trans (same_tile _ _ _)).trans (same_want _ _ _))
  · exact h0.trans (((same_colComma _ _).trans (same_num _ _)).trans (same_want _ _ _))
  · exact h0.trans (((same_colComma _ _).trans (same_frame _ _)).trans (same_want _ _ _))
/-! the loops -/
def colAt (toks : List Tok) (s : PS) : Nat := oneOfV toks colTxt 3 s
def byMark (toks : List Tok) (len : Nat) (s : PS) : PS := if hasC s.by' (colAt toks s) then twiceS (placeS toks len s) (oneOfS toks colTxt 3 s) else oneOfS toks colTxt 3 s
def byStep (toks : List Tok) (len : Nat) (s : PS) : PS := { byMark toks len s with by' := s.by' ++ [colAt toks s] }
def keySt (toks : List Tok) (s : PS) : PS := takeS toks wDesc (oneOfS toks colTxt 3 s)
def keyDesc (toks : List Tok) (s : PS) : Bool := takes toks wDesc (oneOfS toks colTxt 3 s)
def keyMark (toks : List Tok) (len : Nat) (s : PS) : PS := if hasK s.keys (colAt toks s) then twiceS (placeS toks len s) (keySt toks s) else keySt toks s
def keyStep (toks : List Tok) (len : Nat) (s : PS) : PS := { keyMark toks len s with keys := s.keys ++ [(colAt toks s, keyDesc toks s)] }
def funMark (toks : List Tok) (len : Nat) (s : PS) : PS := if s.funcs.length = 4 then { s with many := placeS toks len s } else s
def funStep (toks : List Tok) (len : Nat) (s : PS) : PS := { (funcR toks len (funMark toks len s)).2 with funcs := s.funcs ++ [(funcR toks len (funMark toks len s)).1] }
theorem byStep_next (toks : List Tok) (len : Nat) (s : PS) : s.next ≤ (byStep toks len s).next := by
  have h := oneOfS_next toks colTxt 3 s
  simp only [byStep, byMark]; split
  · rw [twiceS_next]; exact h
  · exact h
theorem keyStep_next (toks : List Tok) (len : Nat) (s : PS) : s.next ≤ (keyStep toks len s).next := by
  have h := oneOfS_next toks colTxt 3 s; have h2 := takeS_next toks wDesc (oneOfS toks colTxt 3 s)
  simp only [keyStep, keyMark, keySt]; split
  · rw [twiceS_next]; omega
  · omega
theorem funStep_next (toks : List Tok) (len : Nat) (s : PS) : s.next ≤ (funStep toks len s).next := by
  have h := funcR_next toks len (funMark toks len s)
  have h2 : (funMark toks len s).next = s.next := by unfold funMark; split <;> rfl
  simp only [funStep]; omega
/-- a step, and again behind a sign that is taken: so many times at most -/
def iterF (c : PS → Bool) (st : PS → PS) : Nat → PS → PS
  | 0, s => st s
  | f + 1, s => if c (st s) = true then iterF c st f (st s).step else st s
def iterR (n : Nat) (c : PS → Bool) (st : PS → PS) (s : PS) : PS := iterF c st (n - s.next) s
theorem iterF_same {n : Nat} {c : PS → Bool} {st : PS → PS} (h1 : ∀ s, c (st s) = true → (st s).next < n) (h2 : ∀ s, s.next ≤ (st s).next) : ∀ (f g : Nat) (s : PS), n ≤ f + s.next → n ≤ g + s.next → iterF c st f s = iterF c st g s
  | 0, 0, _, _, _ => rfl
  | 0, g + 1, s, hf, _ => by
    have hn : ¬ c (st s) = true := fun h => by have := h1 s h; have := h2 s; omega
    rw [iterF, iterF, if_neg hn]
  | f + 1, 0, s, _, hg => by
    have hn : ¬ c (st s) = true := fun h => by have := h1 s h; have := h2 s; omega
    rw [iterF, iterF, if_neg hn]
  | f + 1, g + 1, s, hf, hg => by
    rw [iterF, iterF]
    by_cases h : c (st s) = true
    · have h3 := h2 s
      rw [if_pos h, if_pos h]
      exact iterF_same h1 h2 f g _ (by simp only [PS.step]; omega) (by simp only [PS.step]; omega)
    · rw [if_neg h, if_neg h]
theorem iterR_eq {n : Nat} {c : PS → Bool} {st : PS → PS} (h1 : ∀ s, c (st s) = true → (st s).next < n) (h2 : ∀ s, s.next ≤ (st s).next) (s : PS) : iterR n c st s = if _h : c (st s) = true then iterR n c st (st s).step else st s := by
  by_cases h : c (st s) = true
  · have h3 := h1 s h
    have h4 := h2 s
    rw [dif_pos h]
    show iterF c st (n - s.next) s = _
    rw [show n - s.next = (n - s.next - 1) + 1 by omega, iterF, if_pos h]
    exact iterF_same h1 h2 _ _ _ (by simp only [PS.step]; omega) (by simp only [PS.step]; omega)
  · rw [dif_neg h]
    show iterF c st (n - s.next) s = _
    cases n - s.next with
    | zero => rfl
    | succ f => rw [iterF, if_neg h]
theorem iterR_ind {n : Nat} {c : PS → Bool} {st : PS → PS} {motive : PS → Prop} (h1 : ∀ s, c (st s) = true → (st s).next < n) (h2 : ∀ s, s.next ≤ (st s).next) (case1 : ∀ s, c (st s) = true → motive (st s).step → motive s) (case2 : ∀ s, ¬ c (st s) = true → motive s) (s : PS) : motive s := by
  have key : ∀ f (s : PS), n ≤ f + s.next → motive s := by
    intro f
    induction f with
    | zero => intro s h; exact case2 s (fun q => by have := h1 s q; have := h2 s; omega)
    | succ f ih =>
      intro s h
      by_cases q : c (st s) = true
      · have h3 := h2 s
        exact case1 s q (ih _ (by simp only [PS.step]; omega))
      · exact case2 s q
  exact key n s (by omega)
def byR (toks : List Tok) (len : Nat) (s : PS) : PS := iterR toks.length (takes toks wComma) (byStep toks len) s
theorem byR_eq (toks : List Tok) (len : Nat) (s : PS) : byR toks len s = if _h : takes toks wComma (byStep toks len s) = true then byR toks len (byStep toks len s).step else byStep toks len s :=
  iterR_eq (fun _ h => takes_lt h) (byStep_next toks len) s
theorem byR_ind {toks : List Tok} {len : Nat} {motive : PS → Prop} (case1 : ∀ s, takes toks wComma (byStep toks len s) = true → motive (byStep toks len s).step → motive s) (case2 : ∀ s, ¬ takes toks wComma (byStep toks len s) = true → motive s) (s : PS) : motive s :=
  iterR_ind (fun _ h => takes_lt h) (byStep_next toks len) case1 case2 s
def keyR (toks : List Tok) (len : Nat) (s : PS) : PS := iterR toks.length (takes toks wComma) (keyStep toks len) s
theorem keyR_eq (toks : List Tok) (len : Nat) (s : PS) : keyR toks len s = if _h : takes toks wComma (keyStep toks len s) = true then keyR toks len (keyStep toks len s).step else keyStep toks len s :=
  iterR_eq (fun _ h => takes_lt h) (keyStep_next toks len) s
theorem keyR_ind {toks : List Tok} {len : Nat} {motive : PS → Prop} (case1 : ∀ s, takes toks wComma (keyStep toks len s) = true → motive (keyStep toks len s).step → motive s) (case2 : ∀ s, ¬ takes toks wComma (keyStep toks len s) = true → motive s) (s : PS) : motive s :=
  iterR_ind (fun _ h => takes_lt h) (keyStep_next toks len) case1 case2 s
def funR (toks : List Tok) (len : Nat) (s : PS) : PS := iterR toks.length (takes toks wComma) (funStep toks len) s
theorem funR_eq (toks : List Tok) (len : Nat) (s : PS) : funR toks len s = if _h : takes toks wComma (funStep toks len s) = true then funR toks len (funStep toks len s).step else funStep toks len s :=
  iterR_eq (fun _ h => takes_lt h) (funStep_next toks len) s
def top1 (toks : List Tok) (s : PS) : PS := { numS toks { s with hasTop := true } with top := numV toks { s with hasTop := true } }
def topS (toks : List Tok) (s : PS) : PS := if takes toks wFrom (top1 toks s) then { numS toks (top1 toks s).step with frm := numV toks (top1 toks s).step } else top1 toks s
def q1 (toks : List Tok) (len : Nat) (s : PS) : PS := if takes toks wBy s then byR toks len s.step else s
def q2 (toks : List Tok) (len : Nat) (s : PS) : PS := keyR toks len (wantS toks wOrder (q1 toks len s))
def q3 (toks : List Tok) (len : Nat) (s : PS) : PS := funR toks len (wantS toks wShow (q2 toks len s))
def q4 (toks : List Tok) (len : Nat) (s : PS) : PS := if takes toks wTop (q3 toks len s) then topS toks (q3 toks len s).step else q3 toks len s
def queryS (toks : List Tok) (len : Nat) (s : PS) : PS := endS toks (q4 toks len s)
end Pq
end Go.Proofs.YtcoofnhdbejnpaaGreatDoor

/- Plain functions: what the loops leave alone; the fault that is told; the whole reading. -/
namespace Go.Proofs.YtcoofnhdbejnpaaGreatDoor
namespace Pq
theorem byStep_same (toks : List Tok) (len : Nat) (s : PS) : (byStep toks len s).keys = s.keys ∧ (byStep toks len s).funcs = s.funcs := by
  have h := same_oneOf toks colTxt 3 s
  have h2 := h.trans (same_twice (placeS toks len s) _)
  simp only [byStep, byMark]; split
  · exact ⟨h2.keys, h2.funcs⟩
  · exact ⟨h.keys, h.funcs⟩
theorem byR_same (toks : List Tok) (len : Nat) (s : PS) : (byR toks len s).keys = s.keys ∧ (byR toks len s).funcs = s.funcs := by
  induction s using byR_ind (toks := toks) (len := len) with
  | case1 s h ih => rw [byR_eq, dif_pos h]; have := byStep_same toks len s; exact ⟨ih.1.trans this.1, ih.2.trans this.2⟩
  | case2 s h => rw [byR_eq, dif_neg h]; exact byStep_same toks len s
theorem keyStep_same (toks : List Tok) (len : Nat) (s : PS) : (keyStep toks len s).by' = s.by' ∧ (keyStep toks len s).funcs = s.funcs := by
  have h := (same_oneOf toks colTxt 3 s).trans (same_take toks wDesc _)
  have h2 := h.trans (same_twice (placeS toks len s) _)
  simp only [keyStep, keyMark, keySt]; split
  · exact ⟨h2.by', h2.funcs⟩
  · exact ⟨h.by', h.funcs⟩
theorem keyR_same (toks : List Tok) (len : Nat) (s : PS) : (keyR toks len s).by' = s.by' ∧ (keyR toks len s).funcs = s.funcs := by
  induction s using keyR_ind (toks := toks) (len := len) with
  | case1 s h ih => rw [keyR_eq, dif_pos h]; have := keyStep_same toks len s; exact ⟨ih.1.trans this.1, ih.2.trans this.2⟩
  | case2 s h => rw [keyR_eq, dif_neg h]; exact keyStep_same toks len s
theorem q1_same (toks : List Tok) (len : Nat) (s : PS) : (q1 toks len s).keys = s.keys ∧ (q1 toks len s).funcs = s.funcs := by
  unfold q1; split
  · exact byR_same toks len s.step
  · exact ⟨rfl, rfl⟩
theorem q2_same (toks : List Tok) (len : Nat) (s : PS) : (q2 toks len s).funcs = s.funcs := by
  unfold q2; rw [(keyR_same _ _ _).2, (same_want _ _ _).funcs]; exact (q1_same toks len s).2
/-- the error that is named first, and its place -/
def faultE (s : PS) : Int := if s.failed then 3 else if s.many ≠ -1 then 4 else if s.twice ≠ -1 then 5 else if s.arg ≠ -1 then 6 else 0
def faultP (toks : List Tok) (len : Nat) (s : PS) : Int := if s.failed then placeS toks len s else if s.many ≠ -1 then s.many else if s.twice ≠ -1 then s.twice else if s.arg ≠ -1 then s.arg else 0
def ps0 : PS := ⟨0, false, [], [], [], false, 0, 0, -1, -1, -1⟩
theorem top1_next (toks : List Tok) (s : PS) : s.next ≤ (top1 toks s).next := numS_next toks { s with hasTop := true }
theorem topS_next (toks : List Tok) (s : PS) : s.next ≤ (topS toks s).next := by
  have h1 := top1_next toks s; have h2 := numS_next toks (top1 toks s).step
  unfold topS; split
  · have h3 : (top1 toks s).step.next = (top1 toks s).next + 1 := rfl
    simp only []; omega
  · exact h1
theorem same_top1 (toks : List Tok) (s : PS) : Same s (top1 toks s) := by
  have h := same_num toks { s with hasTop := true }
  exact ⟨h.by', h.keys, h.funcs⟩
theorem same_top (toks : List Tok) (s : PS) : Same s (topS toks s) := by
  unfold topS; split
  · have h := ((same_top1 toks s).trans (same_step _)).trans (same_num toks (top1 toks s).step)
    exact ⟨h.by', h.keys, h.funcs⟩
  · exact same_top1 toks s
theorem endS_next (toks : List Tok) (s : PS) : (endS toks s).next = s.next := by unfold endS; split <;> rfl
end Pq
end Go.Proofs.YtcoofnhdbejnpaaGreatDoor

/- Plain functions: reading a text; what its tokens are. -/
namespace Go.Proofs.YtcoofnhdbejnpaaGreatDoor
namespace Pq
def toksOf (l : Bytes) : List Tok := (lexFrom l 0).1
def endPS (l : Bytes) : PS := queryS (toksOf l) l.length ps0
def readE (l : Bytes) : Int := if 300 < l.length then 1 else if (lexFrom l 0).2 = -1 then faultE (endPS l) else 2
def readP (l : Bytes) : Int := if 300 < l.length then 0 else if (lexFrom l 0).2 = -1 then faultP (toksOf l) l.length (endPS l) else (lexFrom l 0).2
theorem isSgn_not_dig {c : UInt8} (h : isDig c = true) : isSgn c = false := by
  simp only [isDig, Bool.and_eq_true, decide_eq_true_eq] at h
  simp only [isSgn, Bool.or_eq_false_iff, beq_eq_false_iff_ne]
  omega
def GoodTok (t : Tok) : Prop := t.num = true → t.text.length ≤ 2 ∧ ∀ c ∈ t.text, isDig c = true
theorem text_rowEnd (p : UInt8 → Bool) (l : Bytes) (n : Nat) : (l.take (rowEnd p l n)).drop n = (l.drop n).takeWhile p := by
  rw [List.drop_take]
  have e : rowEnd p l n - n = ((l.drop n).takeWhile p).length := by unfold rowEnd; omega
  rw [e]
  exact (List.prefix_iff_eq_take.1 (List.takeWhile_prefix p)).symm
theorem lexFrom_good (l : Bytes) (n : Nat) : ∀ t ∈ (lexFrom l n).1, GoodTok t := by
  induction n using lexFrom_ind (l := l) with
  | case1 n h hb ih => rw [lexFrom_blk h hb]; exact ih
  | case2 n h hb he => rw [lexFrom_bad h (by simpa using hb) he]; intro t ht; cases ht
  | case3 n h hb he ih =>
    rw [lexFrom_tok h (by simpa using hb) (by omega)]
    intro t ht
    rcases List.mem_cons.1 ht with rfl | ht
    · intro hd
      simp only at hd ⊢
      have hs := isSgn_not_dig hd
      have e : tokEnd l n = if rowEnd isDig l n - n > 2 then n else rowEnd isDig l n := by unfold tokEnd; rw [dif_pos h]; simp [hs, hd]
      by_cases h2 : rowEnd isDig l n - n > 2
      · rw [e, if_pos h2] at he; omega
      · rw [e, if_neg h2]
        rw [text_rowEnd]
        refine ⟨?_, fun c hc => ?_⟩
        · have : rowEnd isDig l n - n = ((l.drop n).takeWhile isDig).length := by unfold rowEnd; omega
          omega
        · exact List.all_eq_true.1 List.all_takeWhile c hc
    · exact ih t ht
  | case4 n h => rw [lexFrom_end h]; intro t ht; cases ht
theorem lexFrom_len (l : Bytes) (n : Nat) : (lexFrom l n).1.length ≤ l.length - n := by
  induction n using lexFrom_ind (l := l) with
  | case1 n h hb ih => rw [lexFrom_blk h hb]; omega
  | case2 n h hb he => rw [lexFrom_bad h (by simpa using hb) he]; simp
  | case3 n h hb he ih =>
    rw [lexFrom_tok h (by simpa using hb) (by omega)]
    simp only [List.length_cons]; omega
  | case4 n h => rw [lexFrom_end h]; simp
theorem readE_long {l : Bytes} (h : 300 < l.length) : readE l = 1 ∧ readP l = 0 := by simp [readE, readP, h]
theorem readE_bad {l : Bytes} (h : ¬ 300 < l.length) (hl : ¬ (lexFrom l 0).2 = -1) : readE l = 2 ∧ readP l = (lexFrom l 0).2 := by simp [readE, readP, h, hl]
theorem readE_ok {l : Bytes} (h : ¬ 300 < l.length) (hl : (lexFrom l 0).2 = -1) : readE l = faultE (endPS l) ∧ readP l = faultP (toksOf l) l.length (endPS l) := by simp [readE, readP, h, hl]
end Pq
end Go.Proofs.YtcoofnhdbejnpaaGreatDoor

/- Plain functions: what package panesref's token reader answers, and that it is what package queries' answers. -/
namespace Go.Proofs.YtcoofnhdbejnpaaGreatDoor
namespace Pr
open Pq
/-- is the word one of these? -/
def inW (t : Bytes) (ws : List Bytes) : Bool := ws.contains t
end Pr
end Go.Proofs.YtcoofnhdbejnpaaGreatDoor

/- Plain functions: what package panesref's symbols become, and what fits them. -/
namespace Go.Proofs.YtcoofnhdbejnpaaGreatDoor
namespace Pr
open Pq
abbrev sBY : Bytes := [66, 89]
abbrev sCOLS : Bytes := [67, 79, 76, 83]
abbrev sKEYS : Bytes := [75, 69, 89, 83]
abbrev sDESC : Bytes := [68, 69, 83, 67]
abbrev sFUNCS : Bytes := [70, 85, 78, 67, 83]
abbrev sTOP : Bytes := [84, 79, 80]
abbrev sFROM : Bytes := [70, 82, 79, 77]
abbrev sFUNC : Bytes := [70, 85, 78, 67]
abbrev sFRAME : Bytes := [70, 82, 65, 77, 69]
abbrev sEDGE : Bytes := [69, 68, 71, 69]
abbrev sSIDE : Bytes := [83, 73, 68, 69]
abbrev sCOL : Bytes := [67, 79, 76]
abbrev sNUM : Bytes := [78, 85, 77]
/-- does the token begin with a digit? -/
def numT (t : Bytes) : Bool := match t with | [] => false | c :: _ => isDig c
def partsF (sym t : Bytes) : Option (List Bytes) := if (sym == sFUNC) then (if inW t [[110, 117, 109, 98, 101, 114], [114, 97, 110, 107], [100, 101, 110, 115, 101]] then (some [t]) else if (t == [116, 105, 108, 101]) then (some [[116, 105, 108, 101], [40], sNUM, [41]]) else if (t == [108, 97, 103]) then (some [t, [40], sCOL, [44], sNUM, [41]]) else if (t == [108, 101, 97, 100]) then (some [t, [40], sCOL, [44], sNUM, [41]]) else if inW t [[99, 111, 117, 110, 116], [115, 117, 109], [109, 105, 110], [109, 97, 120], [102, 105, 114, 115, 116], [108, 97, 115, 116]] then (some [t, [40], sCOL, [44], sFRAME, [41]]) else some [[116, 105, 108, 101]]) else if (sym == sFRAME) then (if (t == [97, 108, 108]) then (some [t]) else if (t == [112, 101, 101, 114, 115]) then (some [t]) else if (t == [110, 101, 97, 114]) then (some [[110, 101, 97, 114], sNUM]) else some [sEDGE, [116, 111], sEDGE]) else if (sym == sEDGE) then (if inW t [[115, 116, 97, 114, 116], [101, 110, 100], [104, 101, 114, 101]] then (some [t]) else if numT t then (some [sNUM, sSIDE]) else some [[104, 101, 114, 101]]) else if (sym == sSIDE) then (if (t == [98, 97, 99, 107]) then (some [[98, 97, 99, 107]]) else some [[111, 110]]) else none
def becomesF (sym t : Bytes) : Option (List Bytes) := if (sym == sBY) then (if (t == [98, 121]) then (some [[98, 121], sCOL, sCOLS]) else some []) else if (sym == sCOLS) then (if (t == [44]) then (some [[44], sCOL, sCOLS]) else some []) else if (sym == sKEYS) then (if (t == [44]) then (some [[44], sCOL, sDESC, sKEYS]) else some []) else if (sym == sDESC) then (if (t == [100, 101, 115, 99]) then (some [[100, 101, 115, 99]]) else some []) else if (sym == sFUNCS) then (if (t == [44]) then (some [[44], sFUNC, sFUNCS]) else some []) else if (sym == sTOP) then (if (t == [116, 111, 112]) then (some [[116, 111, 112], sNUM, sFROM]) else some []) else if (sym == sFROM) then (if (t == [102, 114, 111, 109]) then (some [[102, 114, 111, 109], sNUM]) else some []) else partsF sym t
def colWs : List Bytes := [[112], [107], [118]]
def fitsF (sym t : Bytes) : Bool := if t == [] then false else if sym == sCOL then inW t [[112], [107], [118]] else if sym == sNUM then numT t else sym == t
end Pr
end Go.Proofs.YtcoofnhdbejnpaaGreatDoor

/- Plain functions: package panesref's stack of symbols. -/
namespace Go.Proofs.YtcoofnhdbejnpaaGreatDoor
namespace Pr
open Pq
def nulls : List Bytes := [sBY, sCOLS, sKEYS, sDESC, sFUNCS, sTOP, sFROM]
def rank (s : Bytes) : Nat := if nulls.contains s then 3 else if s == sFRAME then 2 else if s == sFUNC then 1 else if s == sEDGE then 1 else if s == sSIDE then 1 else 0
/-- how much the head may still unfold -/
def sec : List Bytes → Nat | [] => 0 | s :: r => if rank s = 3 then 3 + r.length else rank s
/-- the token at hand: empty, behind the last -/
def tAt (toks : List Tok) (i : Nat) : Bytes := match toks[i]? with | some x => x.text | none => []
/-- the head unfolded, with the token t at hand, till it is a token, COL or NUM; in so many steps at most -/
def expand (t : Bytes) : Nat → List Bytes → List Bytes
  | 0, ws => ws
  | _ + 1, [] => []
  | f + 1, sym :: r => match becomesF sym t with | some m => expand t f (m ++ r) | none => sym :: r
/-- the symbols that must come, from the token i on, of which so many are left: has it failed, and where it stands -/
def runF (toks : List Tok) : Nat → List Bytes → Nat → Bool × Nat
  | 0, ws, i => match expand (tAt toks i) (sec ws) ws with | [] => (false, i) | _ :: _ => (true, i)
  | n + 1, ws, i => match expand (tAt toks i) (sec ws) ws with | [] => (false, i) | sym :: r => if fitsF sym (tAt toks i) = true then runF toks n r (i + 1) else (true, i)
/-- the symbols that must come, from the token i on: has it failed, and where it stands -/
def run (toks : List Tok) (ws : List Bytes) (i : Nat) : Bool × Nat := runF toks (toks.length - i) ws i
def start : List Bytes := [sBY, [111, 114, 100, 101, 114], sCOL, sDESC, sKEYS, [115, 104, 111, 119], sFUNC, sFUNCS, sTOP]
end Pr
end Go.Proofs.YtcoofnhdbejnpaaGreatDoor

/- Plain functions: the stack of symbols against the reading by descent: they fail at the same place. -/
namespace Go.Proofs.YtcoofnhdbejnpaaGreatDoor
namespace Pr
open Pq
/-- what may still come, from a state on -/
def cont (toks : List Tok) (s : PS) (ws : List Bytes) : Bool × Nat := if s.failed then (true, s.next) else run toks ws s.next
theorem cont_congr {toks : List Tok} {s s' : PS} (h1 : s'.failed = s.failed) (h2 : s'.next = s.next) (ws : List Bytes) : cont toks s' ws = cont toks s ws := by simp [cont, h1, h2]
def Sim (toks : List Tok) (ws : List Bytes) (f : PS → PS) : Prop := ∀ s rest, cont toks s (ws ++ rest) = cont toks (f s) rest
theorem Sim.comp {toks : List Tok} {a b : List Bytes} {f g : PS → PS} (h1 : Sim toks a f) (h2 : Sim toks b g) : Sim toks (a ++ b) (fun s => g (f s)) := by
  intro s rest; rw [List.append_assoc, h1, h2]
theorem Sim.cons {toks : List Tok} {a : Bytes} {b : List Bytes} {f g : PS → PS} (h1 : Sim toks [a] f) (h2 : Sim toks b g) : Sim toks (a :: b) (fun s => g (f s)) := h1.comp h2
theorem Sim.congr {toks : List Tok} {a : List Bytes} {f g : PS → PS} (h1 : Sim toks a f) (h : ∀ s, (g s).failed = (f s).failed ∧ (g s).next = (f s).next) : Sim toks a g := by
  intro s rest; rw [h1, cont_congr (h s).1 (h s).2]
/-- a state that has failed stays as it is -/
def Stays (f : PS → PS) : Prop := ∀ s, s.failed = true → (f s).failed = true ∧ (f s).next = s.next
theorem Stays.comp {f g : PS → PS} (h1 : Stays f) (h2 : Stays g) : Stays (fun s => g (f s)) := fun s hs => ⟨(h2 _ (h1 s hs).1).1, (h2 _ (h1 s hs).1).2.trans (h1 s hs).2⟩
/-! one symbol -/
/-! lists -/
end Pr
end Go.Proofs.YtcoofnhdbejnpaaGreatDoor

/- Plain functions: the texts that a query is told by. -/
namespace Go.Proofs.YtcoofnhdbejnpaaGreatDoor
namespace Pq
def numTxt (n : Int) : Bytes := if n < 10 then [UInt8.ofNat (48 + n.toNat)] else [UInt8.ofNat (48 + n.toNat / 10), UInt8.ofNat (48 + n.toNat % 10)]
def edgeTxt (e : Edge) : Bytes := if e.kind = 0 then wStart else if e.kind = 1 then wEnd else if e.kind = 2 then wHere else if e.kind = 3 then numTxt e.num ++ 32 :: wBack else numTxt e.num ++ 32 :: wOn
def frameTxt (f : Frame) : Bytes := if f.kind = 0 then wAll else if f.kind = 1 then wPeers else if f.kind = 2 then wNear ++ 32 :: numTxt f.num else edgeTxt f.frm ++ (32 :: wTo ++ [32]) ++ edgeTxt f.to
def fnTxt (f : Fn) : Bytes :=
  if f.kind < 3 then kindTxt f.kind
  else if f.kind = 3 then kindTxt f.kind ++ (wOpen ++ numTxt f.num) ++ wClose
  else if f.kind < 6 then kindTxt f.kind ++ (wOpen ++ colTxt f.col) ++ (wComma ++ 32 :: numTxt f.num) ++ wClose
  else kindTxt f.kind ++ (wOpen ++ colTxt f.col) ++ (wComma ++ 32 :: frameTxt f.frame) ++ wClose
/-- with ', ' between each two -/
def joinTxt : List Bytes → Bytes
  | [] => []
  | [x] => x
  | x :: y :: r => x ++ (44 :: 32 :: joinTxt (y :: r))
def goodNum (n : Int) : Prop := 0 ≤ n ∧ n < 100
theorem numTxt_len (n : Int) : (numTxt n).length ≤ 2 := by unfold numTxt; split <;> simp
theorem edgeTxt_len (e : Edge) : (edgeTxt e).length ≤ 8 := by
  have h := numTxt_len e.num
  unfold edgeTxt
  repeat' split
  all_goals simp [wStart, wEnd, wHere, wBack, wOn]
  all_goals omega
theorem frameTxt_len (f : Frame) : (frameTxt f).length ≤ 20 := by
  have h := numTxt_len f.num; have h1 := edgeTxt_len f.frm; have h2 := edgeTxt_len f.to
  unfold frameTxt
  repeat' split
  all_goals simp [wAll, wPeers, wNear, wTo]
  all_goals omega
theorem kindTxt_len (k : Nat) : (kindTxt k).length ≤ 6 := by unfold kindTxt; split <;> simp
theorem colTxt_len (k : Nat) : (colTxt k).length = 1 := by unfold colTxt; split <;> simp
theorem fnTxt_len (f : Fn) : (fnTxt f).length ≤ 40 := by
  have h := numTxt_len f.num; have h1 := frameTxt_len f.frame; have h2 := kindTxt_len f.kind; have h3 := colTxt_len f.col
  unfold fnTxt
  repeat' split
  all_goals simp [wOpen, wClose, wComma]
  all_goals omega
end Pq
end Go.Proofs.YtcoofnhdbejnpaaGreatDoor

/- Plain functions: lists of texts, and the plain form of a query. -/
namespace Go.Proofs.YtcoofnhdbejnpaaGreatDoor
namespace Pq
theorem joinTxt_snoc : ∀ (xs : List Bytes) (x : Bytes), joinTxt (xs ++ [x]) = if xs = [] then x else joinTxt xs ++ (44 :: 32 :: x)
  | [], _ => rfl
  | [_], _ => by simp [joinTxt]
  | a :: b :: r, x => by
    have ih := joinTxt_snoc (b :: r) x
    simp only [List.cons_append, joinTxt] at ih ⊢
    rw [ih]; simp
end Pq
end Go.Proofs.YtcoofnhdbejnpaaGreatDoor

/- Plain functions: the numbers of what was read are small. -/
namespace Go.Proofs.YtcoofnhdbejnpaaGreatDoor
namespace Pq
/-! top and from -/
def tf (s : PS) : Int × Int := (s.top, s.frm)
end Pq
end Go.Proofs.YtcoofnhdbejnpaaGreatDoor

