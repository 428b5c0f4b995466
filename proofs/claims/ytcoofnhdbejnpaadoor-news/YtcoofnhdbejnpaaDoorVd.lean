/- Plain functions: the stack of symbols against the reading by descent: they fail at the same place. -/
import Derived.Test.YtcoofnhdbejnpaaDoorVc
namespace Go.Proofs.YtcoofnhdbejnpaaDoor
namespace Pr
open Pq
/-- a token says by its first byte whether it is a number -/
def NumToks (toks : List Tok) : Prop := ∀ t ∈ toks, t.num = numT t.text
theorem takes_eq {toks : List Tok} {t : Bytes} {s : PS} (ht : t ≠ []) : takes toks t s = (!s.failed && (tAt toks s.next == t)) := by
  unfold takes tAt
  cases toks[s.next]? with
  | none =>
    have : (([] : Bytes) == t) = false := by simpa using fun h => ht h
    simp [this]
  | some x => rfl
theorem isNum_eq {toks : List Tok} (h : NumToks toks) (s : PS) : isNum toks s = (!s.failed && numT (tAt toks s.next)) := by
  unfold isNum tAt
  cases hx : toks[s.next]? with
  | none => simp [numT]
  | some x => simp only []; rw [h x (List.mem_of_getElem? hx)]
theorem takes_failed {toks : List Tok} {t : Bytes} {s : PS} (h : s.failed = true) : takes toks t s = false := by simp [takes, h]
theorem isNum_failed {toks : List Tok} {s : PS} (h : s.failed = true) : isNum toks s = false := by simp [isNum, h]
/-- what may still come, from a state on -/
def cont (toks : List Tok) (s : PS) (ws : List Bytes) : Bool × Nat := if s.failed then (true, s.next) else run toks ws s.next
theorem cont_failed {toks : List Tok} {s : PS} (h : s.failed = true) (ws : List Bytes) : cont toks s ws = (true, s.next) := by simp [cont, h]
theorem cont_run {toks : List Tok} {s : PS} (h : s.failed = false) (ws : List Bytes) : cont toks s ws = run toks ws s.next := by simp [cont, h]
theorem cont_step {toks : List Tok} {s : PS} (h : s.failed = false) (ws : List Bytes) : run toks ws (s.next + 1) = cont toks s.step ws := (cont_run (s := s.step) h ws).symm
theorem cont_congr {toks : List Tok} {s s' : PS} (h1 : s'.failed = s.failed) (h2 : s'.next = s.next) (ws : List Bytes) : cont toks s' ws = cont toks s ws := by simp [cont, h1, h2]
def Sim (toks : List Tok) (ws : List Bytes) (f : PS → PS) : Prop := ∀ s rest, cont toks s (ws ++ rest) = cont toks (f s) rest
theorem Sim.comp {toks : List Tok} {a b : List Bytes} {f g : PS → PS} (h1 : Sim toks a f) (h2 : Sim toks b g) : Sim toks (a ++ b) (fun s => g (f s)) := by
  intro s rest; rw [List.append_assoc, h1, h2]
theorem Sim.cons {toks : List Tok} {a : Bytes} {b : List Bytes} {f g : PS → PS} (h1 : Sim toks [a] f) (h2 : Sim toks b g) : Sim toks (a :: b) (fun s => g (f s)) := h1.comp h2
theorem Sim.congr {toks : List Tok} {a : List Bytes} {f g : PS → PS} (h1 : Sim toks a f) (h : ∀ s, (g s).failed = (f s).failed ∧ (g s).next = (f s).next) : Sim toks a g := by
  intro s rest; rw [h1, cont_congr (h s).1 (h s).2]
/-- a state that has failed stays as it is -/
def Stays (f : PS → PS) : Prop := ∀ s, s.failed = true → (f s).failed = true ∧ (f s).next = s.next
theorem Sim.mk' {toks : List Tok} {ws : List Bytes} {f : PS → PS} (h0 : Stays f) (h : ∀ s rest, s.failed = false → run toks (ws ++ rest) s.next = cont toks (f s) rest) : Sim toks ws f := by
  intro s rest
  cases hf : s.failed
  · rw [cont_run hf]; exact h s rest hf
  · rw [cont_failed hf, cont_failed (h0 s hf).1, (h0 s hf).2]
theorem Stays.comp {f g : PS → PS} (h1 : Stays f) (h2 : Stays g) : Stays (fun s => g (f s)) := fun s hs => ⟨(h2 _ (h1 s hs).1).1, (h2 _ (h1 s hs).1).2.trans (h1 s hs).2⟩
theorem stays_want (toks : List Tok) (t : Bytes) : Stays (wantS toks t) := fun s hs => by simp [wantS, takes_failed hs, PS.fail]
theorem stays_take (toks : List Tok) (t : Bytes) : Stays (takeS toks t) := fun s hs => by simp [takeS, takes_failed hs, hs]
theorem stays_num (toks : List Tok) : Stays (numS toks) := fun s hs => by simp [numS, isNum_failed hs, PS.fail]
theorem firstTake_failed {toks : List Tok} {txt : Nat → Bytes} {n : Nat} {s : PS} (h : s.failed = true) : firstTake toks txt n s = none := firstTake_none (fun _ _ => takes_failed h)
theorem stays_oneOf (toks : List Tok) (txt : Nat → Bytes) (n : Nat) : Stays (oneOfS toks txt n) := fun s hs => by simp [oneOfS, firstTake_failed hs, PS.fail]
theorem stays_edge (toks : List Tok) : Stays (fun s => (edgeR toks s).2) := fun s hs => by
  have h1 := stays_num toks s hs
  have h2 := stays_want toks wOn _ h1.1
  simp only [edgeR, takes_failed hs, takes_failed h1.1, Bool.false_eq_true, if_false]
  exact ⟨h2.1, h2.2.trans h1.2⟩
theorem stays_frame (toks : List Tok) : Stays (fun s => (frameR toks s).2) := fun s hs => by
  have h := (((stays_edge toks).comp (stays_want toks wTo)).comp (stays_edge toks)) s hs
  simp only [frameR, takes_failed hs, Bool.false_eq_true, if_false]
  exact h
theorem stays_func (toks : List Tok) (len : Nat) : Stays (fun s => (funcR toks len s).2) := fun s hs => by
  have h := stays_oneOf toks kindTxt 12 s hs
  have e : oneOfV toks kindTxt 12 s = 0 := by simp [oneOfV, firstTake_failed hs]
  simp only [funcR, e]
  exact h
theorem byStep_nf (toks : List Tok) (len : Nat) (s : PS) : (byStep toks len s).failed = (oneOfS toks colTxt 3 s).failed ∧ (byStep toks len s).next = (oneOfS toks colTxt 3 s).next := by
  simp only [byStep, byMark, twiceS]; repeat' split
  all_goals exact ⟨rfl, rfl⟩
theorem keyStep_nf (toks : List Tok) (len : Nat) (s : PS) : (keyStep toks len s).failed = (keySt toks s).failed ∧ (keyStep toks len s).next = (keySt toks s).next := by
  simp only [keyStep, keyMark, twiceS]; repeat' split
  all_goals exact ⟨rfl, rfl⟩
theorem funMark_nf (toks : List Tok) (len : Nat) (s : PS) : (funMark toks len s).failed = s.failed ∧ (funMark toks len s).next = s.next := by
  unfold funMark; split <;> exact ⟨rfl, rfl⟩
theorem stays_byStep (toks : List Tok) (len : Nat) : Stays (byStep toks len) := fun s hs => by
  have h := stays_oneOf toks colTxt 3 s hs
  have e := byStep_nf toks len s
  exact ⟨e.1.trans h.1, e.2.trans h.2⟩
theorem stays_keyStep (toks : List Tok) (len : Nat) : Stays (keyStep toks len) := fun s hs => by
  have h := ((stays_oneOf toks colTxt 3).comp (stays_take toks wDesc)) s hs
  have e := keyStep_nf toks len s
  exact ⟨e.1.trans h.1, e.2.trans h.2⟩
theorem stays_funStep (toks : List Tok) (len : Nat) : Stays (funStep toks len) := fun s hs => by
  have e := funMark_nf toks len s
  have h := stays_func toks len (funMark toks len s) (e.1.trans hs)
  exact ⟨h.1, h.2.trans e.2⟩
theorem stays_byR (toks : List Tok) (len : Nat) : Stays (byR toks len) := fun s hs => by
  have h := stays_byStep toks len s hs
  rw [byR_eq, dif_neg (by simp [takes_failed h.1])]; exact h
theorem stays_keyR (toks : List Tok) (len : Nat) : Stays (keyR toks len) := fun s hs => by
  have h := stays_keyStep toks len s hs
  rw [keyR_eq, dif_neg (by simp [takes_failed h.1])]; exact h
theorem stays_funR (toks : List Tok) (len : Nat) : Stays (funR toks len) := fun s hs => by
  have h := stays_funStep toks len s hs
  rw [funR_eq, dif_neg (by simp [takes_failed h.1])]; exact h
/-! one symbol -/
theorem sim_word (toks : List Tok) {t : Bytes} (h1 : t ∉ allS) (h2 : t ≠ sCOL) (h3 : t ≠ sNUM) (h4 : t ≠ []) : Sim toks [t] (wantS toks t) := by
  refine Sim.mk' (stays_want toks t) fun s rest hf => ?_
  show run toks (t :: rest) s.next = _
  by_cases e : tAt toks s.next = t
  · have ht : takes toks t s = true := by rw [takes_eq h4]; simp [hf, e]
    have hfit : fitsF t (tAt toks s.next) = true := by rw [e]; simp [fitsF, h2, h3, h4]
    rw [run_fit (bec_none h1 _) hfit]
    simp only [wantS, ht, if_true]
    exact cont_step hf _
  · have ht : takes toks t s = false := by rw [takes_eq h4]; simp [e]
    have hfit : fitsF t (tAt toks s.next) = false := by
      have e' : ¬ t = tAt toks s.next := fun h => e h.symm
      simp [fitsF, h2, h3, e']
    rw [run_bad (bec_none h1 _) hfit]
    simp [wantS, ht, cont, PS.fail]
theorem sim_num {toks : List Tok} (hT : NumToks toks) : Sim toks [sNUM] (numS toks) := by
  refine Sim.mk' (stays_num toks) fun s rest hf => ?_
  show run toks (sNUM :: rest) s.next = _
  have hb : becomesF sNUM (tAt toks s.next) = none := bec_none (by decide) _
  have hfe : fitsF sNUM (tAt toks s.next) = numT (tAt toks s.next) := by
    unfold fitsF
    cases tAt toks s.next with
    | nil => rfl
    | cons a r => rfl
  cases e : numT (tAt toks s.next)
  · have hn : isNum toks s = false := by rw [isNum_eq hT]; simp [e]
    rw [run_bad hb (hfe.trans e)]; simp [numS, hn, cont, PS.fail]
  · have hn : isNum toks s = true := by rw [isNum_eq hT]; simp [e, hf]
    rw [run_fit hb (hfe.trans e)]; simp only [numS, hn, if_true]; exact cont_step hf _
theorem oneOf_hit {toks : List Tok} {txt : Nat → Bytes} {n k : Nat} {s : PS} (hf : s.failed = false) (hk : k < n) (hd : ∀ j, j < k → txt j ≠ txt k ∧ txt j ≠ []) (hne : txt k ≠ []) (h : tAt toks s.next = txt k) : firstTake toks txt n s = some k :=
  firstTake_some hk (fun j hj => by rw [takes_eq (hd j hj).2, h]; simp; exact fun _ e => (hd j hj).1 e.symm) (by rw [takes_eq hne, h]; simp [hf])
theorem oneOf_miss {toks : List Tok} {txt : Nat → Bytes} {n : Nat} {s : PS} (hne : ∀ j, txt j ≠ []) (h : ∀ j, j < n → tAt toks s.next ≠ txt j) : firstTake toks txt n s = none :=
  firstTake_none (fun j hj => by rw [takes_eq (hne j)]; simp [h j hj])
theorem colTxt_ne (j : Nat) : colTxt j ≠ [] := by unfold colTxt; split <;> simp
theorem kindTxt_ne (j : Nat) : kindTxt j ≠ [] := by unfold kindTxt; split <;> simp
theorem inW_of {t : Bytes} {ws : List Bytes} (h : t ∈ ws) : inW t ws = true := List.contains_iff_mem.2 h
theorem inW_no {t : Bytes} {ws : List Bytes} (h : t ∉ ws) : inW t ws = false := by
  rw [Bool.eq_false_iff]; exact fun e => h (inW_mem e)
theorem sim_col (toks : List Tok) : Sim toks [sCOL] (oneOfS toks colTxt 3) := by
  refine Sim.mk' (stays_oneOf toks colTxt 3) fun s rest hf => ?_
  show run toks (sCOL :: rest) s.next = _
  have hb : becomesF sCOL (tAt toks s.next) = none := bec_none (by decide) _
  have hit : ∀ k, k < 3 → (∀ j, j < k → colTxt j ≠ colTxt k) → tAt toks s.next = colTxt k → run toks (sCOL :: rest) s.next = cont toks (oneOfS toks colTxt 3 s) rest := by
    intro k hk hd e
    have h1 := oneOf_hit (n := 3) hf hk (fun j hj => ⟨hd j hj, colTxt_ne j⟩) (colTxt_ne k) e
    have hfit : fitsF sCOL (tAt toks s.next) = true := by
      rw [e]
      match k, hk with
      | 0, _ => decide
      | 1, _ => decide
      | 2, _ => decide
    rw [run_fit hb hfit]; simp only [oneOfS, h1]; exact cont_step hf _
  by_cases h0 : tAt toks s.next = colTxt 0
  · exact hit 0 (by omega) (by omega) h0
  by_cases h1 : tAt toks s.next = colTxt 1
  · exact hit 1 (by omega) (by decide) h1
  by_cases h2 : tAt toks s.next = colTxt 2
  · exact hit 2 (by omega) (by decide) h2
  have hm : firstTake toks colTxt 3 s = none := oneOf_miss colTxt_ne (fun j hj => by
    match j, hj with
    | 0, _ => exact h0
    | 1, _ => exact h1
    | 2, _ => exact h2)
  have hfit : fitsF sCOL (tAt toks s.next) = false := by
    unfold fitsF
    rw [inW_no (by
      simp only [List.mem_cons, List.not_mem_nil, or_false, not_or]
      exact ⟨h0, h1, h2⟩)]
    simp
  rw [run_bad hb hfit]; simp [oneOfS, hm, cont, PS.fail]
theorem run_word {toks : List Tok} {t : Bytes} {i : Nat} {rest : List Bytes} (h1 : t ∉ allS) (h2 : t ≠ sCOL) (h3 : t ≠ sNUM) (h4 : t ≠ []) (e : tAt toks i = t) : run toks (t :: rest) i = run toks rest (i + 1) :=
  run_fit (bec_none h1 _) (by rw [e]; simp [fitsF, h2, h3, h4])
theorem run_noword {toks : List Tok} {t : Bytes} {i : Nat} {rest : List Bytes} (h1 : t ∉ allS) (h2 : t ≠ sCOL) (h3 : t ≠ sNUM) (e : tAt toks i ≠ t) : run toks (t :: rest) i = (true, i) :=
  run_bad (bec_none h1 _) (by have e' : ¬ t = tAt toks i := fun h => e h.symm; simp [fitsF, h2, h3, e'])
theorem sim_desc (toks : List Tok) : Sim toks [sDESC] (takeS toks wDesc) := by
  refine Sim.mk' (stays_take toks wDesc) fun s rest hf => ?_
  show run toks (sDESC :: rest) s.next = _
  by_cases e : tAt toks s.next = wDesc
  · have hb : becomesF sDESC (tAt toks s.next) = some [wDesc] := by rw [e]; decide
    have ht : takes toks wDesc s = true := by rw [takes_eq (by decide)]; simp [hf, e]
    rw [run_some hb, List.singleton_append, run_word (by decide) (by decide) (by decide) (by decide) e]
    simp only [takeS, ht, if_true]; exact cont_step hf _
  · have hb : becomesF sDESC (tAt toks s.next) = some [] := by rw [bec_DESC, if_neg (by intro q; exact e (eq_of_beq q))]
    have ht : takes toks wDesc s = false := by rw [takes_eq (by decide)]; simp [e]
    rw [run_some hb, List.nil_append]
    simp only [takeS, ht, Bool.false_eq_true, if_false]; exact (cont_run hf _).symm
theorem sim_edge {toks : List Tok} (hT : NumToks toks) : Sim toks [sEDGE] (fun s => (edgeR toks s).2) := by
  refine Sim.mk' (stays_edge toks) fun s rest hf => ?_
  show run toks (sEDGE :: rest) s.next = _
  by_cases h0 : tAt toks s.next = wStart
  · have hb : becomesF sEDGE (tAt toks s.next) = some [wStart] := by rw [h0]; decide
    have ht : takes toks wStart s = true := by rw [takes_eq (by decide)]; simp [hf, h0]
    rw [run_some hb, List.singleton_append, run_word (by decide) (by decide) (by decide) (by decide) h0]
    simp only [edgeR, ht, if_true]; exact cont_step hf _
  have t0 : takes toks wStart s = false := by rw [takes_eq (by decide)]; simp [h0]
  by_cases h1 : tAt toks s.next = wEnd
  · have hb : becomesF sEDGE (tAt toks s.next) = some [wEnd] := by rw [h1]; decide
    have ht : takes toks wEnd s = true := by rw [takes_eq (by decide)]; simp [hf, h1]
    rw [run_some hb, List.singleton_append, run_word (by decide) (by decide) (by decide) (by decide) h1]
    simp only [edgeR, t0, ht, if_true, Bool.false_eq_true, if_false]; exact cont_step hf _
  have t1 : takes toks wEnd s = false := by rw [takes_eq (by decide)]; simp [h1]
  by_cases h2 : tAt toks s.next = wHere
  · have hb : becomesF sEDGE (tAt toks s.next) = some [wHere] := by rw [h2]; decide
    have ht : takes toks wHere s = true := by rw [takes_eq (by decide)]; simp [hf, h2]
    rw [run_some hb, List.singleton_append, run_word (by decide) (by decide) (by decide) (by decide) h2]
    simp only [edgeR, t0, t1, ht, if_true, Bool.false_eq_true, if_false]; exact cont_step hf _
  have t2 : takes toks wHere s = false := by rw [takes_eq (by decide)]; simp [h2]
  have hin : inW (tAt toks s.next) [[115, 116, 97, 114, 116], [101, 110, 100], [104, 101, 114, 101]] = false := inW_no (by
    simp only [List.mem_cons, List.not_mem_nil, or_false, not_or]; exact ⟨h0, h1, h2⟩)
  cases hn : numT (tAt toks s.next)
  · have hb : becomesF sEDGE (tAt toks s.next) = some [wHere] := by rw [bec_EDGE, hin, hn]; rfl
    have hi : isNum toks s = false := by rw [isNum_eq hT]; simp [hn]
    have e1 : numS toks s = s.fail := by simp [numS, hi]
    rw [run_some hb, List.singleton_append, run_noword (by decide) (by decide) (by decide) h2]
    have e2 := stays_edge toks
    simp only [edgeR, t0, t1, t2, Bool.false_eq_true, if_false, e1, takes_failed (show s.fail.failed = true from rfl)]
    rw [cont_failed (stays_want toks wOn s.fail rfl).1, (stays_want toks wOn s.fail rfl).2]; rfl
  · have hb : becomesF sEDGE (tAt toks s.next) = some [sNUM, sSIDE] := by rw [bec_EDGE, hin, hn]; rfl
    have hi : isNum toks s = true := by rw [isNum_eq hT]; simp [hn, hf]
    have e1 : numS toks s = s.step := by simp [numS, hi]
    have hf1 : s.step.failed = false := hf
    have e3 := sim_num hT s (sSIDE :: rest)
    rw [cont_run hf, e1, cont_run hf1] at e3
    rw [run_some hb]
    show run toks (sNUM :: sSIDE :: rest) s.next = _
    rw [show (sNUM :: sSIDE :: rest) = [sNUM] ++ sSIDE :: rest from rfl, e3]
    simp only [edgeR, t0, t1, t2, Bool.false_eq_true, if_false, e1]
    by_cases h3 : tAt toks s.step.next = wBack
    · have hb2 : becomesF sSIDE (tAt toks s.step.next) = some [wBack] := by rw [h3]; decide
      have ht : takes toks wBack s.step = true := by rw [takes_eq (by decide)]; simp [hf1, h3]
      rw [run_some hb2, List.singleton_append, run_word (by decide) (by decide) (by decide) (by decide) h3]
      simp only [ht, if_true]; exact cont_step hf1 _
    · have hb2 : becomesF sSIDE (tAt toks s.step.next) = some [wOn] := by rw [bec_SIDE, if_neg (by intro q; exact h3 (eq_of_beq q))]; rfl
      have ht : takes toks wBack s.step = false := by rw [takes_eq (by decide)]; simp [h3]
      rw [run_some hb2]
      simp only [ht, Bool.false_eq_true, if_false]
      have e4 := sim_word toks (t := wOn) (by decide) (by decide) (by decide) (by decide) s.step rest
      rw [cont_run hf1] at e4
      exact e4
theorem sim_frame {toks : List Tok} (hT : NumToks toks) : Sim toks [sFRAME] (fun s => (frameR toks s).2) := by
  refine Sim.mk' (stays_frame toks) fun s rest hf => ?_
  show run toks (sFRAME :: rest) s.next = _
  by_cases h0 : tAt toks s.next = wAll
  · have hb : becomesF sFRAME (tAt toks s.next) = some [wAll] := by rw [h0]; decide
    have ht : takes toks wAll s = true := by rw [takes_eq (by decide)]; simp [hf, h0]
    rw [run_some hb, List.singleton_append, run_word (by decide) (by decide) (by decide) (by decide) h0]
    simp only [frameR, ht, if_true]; exact cont_step hf _
  have t0 : takes toks wAll s = false := by rw [takes_eq (by decide)]; simp [h0]
  by_cases h1 : tAt toks s.next = wPeers
  · have hb : becomesF sFRAME (tAt toks s.next) = some [wPeers] := by rw [h1]; decide
    have ht : takes toks wPeers s = true := by rw [takes_eq (by decide)]; simp [hf, h1]
    rw [run_some hb, List.singleton_append, run_word (by decide) (by decide) (by decide) (by decide) h1]
    simp only [frameR, t0, ht, if_true, Bool.false_eq_true, if_false]; exact cont_step hf _
  have t1 : takes toks wPeers s = false := by rw [takes_eq (by decide)]; simp [h1]
  by_cases h2 : tAt toks s.next = wNear
  · have hb : becomesF sFRAME (tAt toks s.next) = some [wNear, sNUM] := by rw [h2]; decide
    have ht : takes toks wNear s = true := by rw [takes_eq (by decide)]; simp [hf, h2]
    rw [run_some hb, List.cons_append, run_word (by decide) (by decide) (by decide) (by decide) h2]
    simp only [frameR, t0, t1, ht, if_true, Bool.false_eq_true, if_false]
    have hf1 : s.step.failed = false := hf
    have e3 := sim_num hT s.step rest
    rw [cont_run hf1] at e3
    exact e3
  have t2 : takes toks wNear s = false := by rw [takes_eq (by decide)]; simp [h2]
  have hb : becomesF sFRAME (tAt toks s.next) = some [sEDGE, wTo, sEDGE] := by
    rw [bec_FRAME, if_neg (by intro q; exact h0 (eq_of_beq q)), if_neg (by intro q; exact h1 (eq_of_beq q)), if_neg (by intro q; exact h2 (eq_of_beq q))]; rfl
  rw [run_some hb]
  simp only [frameR, t0, t1, t2, Bool.false_eq_true, if_false]
  have e := ((sim_edge hT).cons ((sim_word toks (t := wTo) (by decide) (by decide) (by decide) (by decide)).cons (sim_edge hT))) s rest
  rw [cont_run hf] at e
  exact e
theorem tileS_nf (toks : List Tok) (len : Nat) (s : PS) : (tileS toks len s).failed = (numS toks s).failed ∧ (tileS toks len s).next = (numS toks s).next := by
  unfold tileS; split <;> exact ⟨rfl, rfl⟩
theorem sim_tile {toks : List Tok} (hT : NumToks toks) (len : Nat) : Sim toks [[40], sNUM, [41]] (fun s => (tileR toks len s).2) :=
  (sim_word toks (t := wOpen) (by decide) (by decide) (by decide) (by decide)).cons (((sim_num hT).congr (tileS_nf toks len)).cons (sim_word toks (t := wClose) (by decide) (by decide) (by decide) (by decide)))
theorem sim_colComma (toks : List Tok) : Sim toks [[40], sCOL, [44]] (colComma toks) :=
  (sim_word toks (t := wOpen) (by decide) (by decide) (by decide) (by decide)).cons ((sim_col toks).cons (sim_word toks (t := wComma) (by decide) (by decide) (by decide) (by decide)))
theorem sim_lag {toks : List Tok} (hT : NumToks toks) (k : Nat) : Sim toks [[40], sCOL, [44], sNUM, [41]] (fun s => (lagR toks k s).2) :=
  (sim_colComma toks).comp ((sim_num hT).cons (sim_word toks (t := wClose) (by decide) (by decide) (by decide) (by decide)))
theorem sim_over {toks : List Tok} (hT : NumToks toks) (k : Nat) : Sim toks [[40], sCOL, [44], sFRAME, [41]] (fun s => (overR toks k s).2) :=
  (sim_colComma toks).comp ((sim_frame hT).cons (sim_word toks (t := wClose) (by decide) (by decide) (by decide) (by decide)))
theorem func_hit {toks : List Tok} {len : Nat} {s : PS} {k : Nat} (hf : s.failed = false) (hk : k < 12) (hd : ∀ j, j < k → kindTxt j ≠ kindTxt k) (h : tAt toks s.next = kindTxt k) : funcR toks len s = if k < 3 then (⟨k, 0, 0, fr0⟩, s.step) else if k = 3 then tileR toks len s.step else if k < 6 then lagR toks k s.step else overR toks k s.step := by
  have h1 := oneOf_hit (n := 12) hf hk (fun j hj => ⟨hd j hj, kindTxt_ne j⟩) (kindTxt_ne k) h
  simp only [funcR, oneOfS, oneOfV, h1]
theorem sim_func {toks : List Tok} (hT : NumToks toks) (len : Nat) : Sim toks [sFUNC] (fun s => (funcR toks len s).2) := by
  refine Sim.mk' (stays_func toks len) fun s rest hf => ?_
  show run toks (sFUNC :: rest) s.next = _
  have hf1 : s.step.failed = false := hf
  have word : ∀ k, k < 3 → (∀ j, j < k → kindTxt j ≠ kindTxt k) → becomesF sFUNC (kindTxt k) = some [kindTxt k] → kindTxt k ∉ allS → kindTxt k ≠ sCOL → kindTxt k ≠ sNUM → tAt toks s.next = kindTxt k → run toks (sFUNC :: rest) s.next = cont toks (funcR toks len s).2 rest := by
    intro k hk hd hb h1 h2 h3 e
    rw [run_some (by rw [e]; exact hb), List.singleton_append, run_word h1 h2 h3 (kindTxt_ne k) e, func_hit hf (by omega) hd e, if_pos hk]
    exact cont_step hf _
  have lag : ∀ k, 3 < k → k < 6 → (∀ j, j < k → kindTxt j ≠ kindTxt k) → becomesF sFUNC (kindTxt k) = some (kindTxt k :: [[40], sCOL, [44], sNUM, [41]]) → kindTxt k ∉ allS → kindTxt k ≠ sCOL → kindTxt k ≠ sNUM → tAt toks s.next = kindTxt k → run toks (sFUNC :: rest) s.next = cont toks (funcR toks len s).2 rest := by
    intro k hk hk6 hd hb h1 h2 h3 e
    rw [run_some (by rw [e]; exact hb), List.cons_append, run_word h1 h2 h3 (kindTxt_ne k) e, func_hit hf (by omega) hd e, if_neg (by omega), if_neg (by omega), if_pos hk6]
    have e3 := sim_lag hT k s.step rest
    rw [cont_run hf1] at e3
    exact e3
  have over : ∀ k, 5 < k → k < 12 → (∀ j, j < k → kindTxt j ≠ kindTxt k) → becomesF sFUNC (kindTxt k) = some (kindTxt k :: [[40], sCOL, [44], sFRAME, [41]]) → kindTxt k ∉ allS → kindTxt k ≠ sCOL → kindTxt k ≠ sNUM → tAt toks s.next = kindTxt k → run toks (sFUNC :: rest) s.next = cont toks (funcR toks len s).2 rest := by
    intro k hk hk6 hd hb h1 h2 h3 e
    rw [run_some (by rw [e]; exact hb), List.cons_append, run_word h1 h2 h3 (kindTxt_ne k) e, func_hit hf (by omega) hd e, if_neg (by omega), if_neg (by omega), if_neg (by omega)]
    have e3 := sim_over hT k s.step rest
    rw [cont_run hf1] at e3
    exact e3
  by_cases h0 : tAt toks s.next = kindTxt 0
  · exact word 0 (by omega) (by omega) (by decide) (by decide) (by decide) (by decide) h0
  by_cases h1 : tAt toks s.next = kindTxt 1
  · exact word 1 (by omega) (by decide) (by decide) (by decide) (by decide) (by decide) h1
  by_cases h2 : tAt toks s.next = kindTxt 2
  · exact word 2 (by omega) (by decide) (by decide) (by decide) (by decide) (by decide) h2
  by_cases h3 : tAt toks s.next = kindTxt 3
  · have hb : becomesF sFUNC (kindTxt 3) = some (kindTxt 3 :: [[40], sNUM, [41]]) := by decide
    rw [run_some (by rw [h3]; exact hb), List.cons_append, run_word (by decide) (by decide) (by decide) (kindTxt_ne 3) h3, func_hit hf (by omega) (by decide) h3, if_neg (by omega), if_pos rfl]
    have e3 := sim_tile hT len s.step rest
    rw [cont_run hf1] at e3
    exact e3
  by_cases h4 : tAt toks s.next = kindTxt 4
  · exact lag 4 (by omega) (by omega) (by decide) (by decide) (by decide) (by decide) (by decide) h4
  by_cases h5 : tAt toks s.next = kindTxt 5
  · exact lag 5 (by omega) (by omega) (by decide) (by decide) (by decide) (by decide) (by decide) h5
  by_cases h6 : tAt toks s.next = kindTxt 6
  · exact over 6 (by omega) (by omega) (by decide) (by decide) (by decide) (by decide) (by decide) h6
  by_cases h7 : tAt toks s.next = kindTxt 7
  · exact over 7 (by omega) (by omega) (by decide) (by decide) (by decide) (by decide) (by decide) h7
  by_cases h8 : tAt toks s.next = kindTxt 8
  · exact over 8 (by omega) (by omega) (by decide) (by decide) (by decide) (by decide) (by decide) h8
  by_cases h9 : tAt toks s.next = kindTxt 9
  · exact over 9 (by omega) (by omega) (by decide) (by decide) (by decide) (by decide) (by decide) h9
  by_cases h10 : tAt toks s.next = kindTxt 10
  · exact over 10 (by omega) (by omega) (by decide) (by decide) (by decide) (by decide) (by decide) h10
  by_cases h11 : tAt toks s.next = kindTxt 11
  · exact over 11 (by omega) (by omega) (by decide) (by decide) (by decide) (by decide) (by decide) h11
  have hm : firstTake toks kindTxt 12 s = none := oneOf_miss kindTxt_ne (fun j hj => by
    match j, hj with
    | 0, _ => exact h0
    | 1, _ => exact h1
    | 2, _ => exact h2
    | 3, _ => exact h3
    | 4, _ => exact h4
    | 5, _ => exact h5
    | 6, _ => exact h6
    | 7, _ => exact h7
    | 8, _ => exact h8
    | 9, _ => exact h9
    | 10, _ => exact h10
    | 11, _ => exact h11)
  have hb : becomesF sFUNC (tAt toks s.next) = some [kindTxt 3] := by
    rw [bec_FUNC, inW_no (by simp only [List.mem_cons, List.not_mem_nil, or_false, not_or]; exact ⟨h0, h1, h2⟩), if_neg (by simp), if_neg (by intro q; exact h3 (eq_of_beq q)), if_neg (by intro q; exact h4 (eq_of_beq q)), if_neg (by intro q; exact h5 (eq_of_beq q)), inW_no (by simp only [List.mem_cons, List.not_mem_nil, or_false, not_or]; exact ⟨h6, h7, h8, h9, h10, h11⟩), if_neg (by simp)]; rfl
  rw [run_some hb, List.singleton_append, run_noword (by decide) (by decide) (by decide) h3]
  simp [funcR, oneOfS, oneOfV, hm, cont, PS.fail]
/-! lists -/
theorem sim_byStep (toks : List Tok) (len : Nat) : Sim toks [sCOL] (byStep toks len) := (sim_col toks).congr (byStep_nf toks len)
theorem sim_keyStep (toks : List Tok) (len : Nat) : Sim toks [sCOL, sDESC] (keyStep toks len) := ((sim_col toks).cons (sim_desc toks)).congr (keyStep_nf toks len)
theorem sim_funStep {toks : List Tok} (hT : NumToks toks) (len : Nat) : Sim toks [sFUNC] (funStep toks len) := by
  intro s rest
  have e := sim_func hT len (funMark toks len s) rest
  rw [cont_congr (funMark_nf toks len s).1 (funMark_nf toks len s).2] at e
  exact e
theorem opt_word {toks : List Tok} {s : PS} {sym w : Bytes} {m rest : List Bytes} (hw : w ∉ allS ∧ w ≠ sCOL ∧ w ≠ sNUM ∧ w ≠ []) (hc : ∀ t, becomesF sym t = if (t == w) then some (w :: m) else some []) :
    (takes toks w s = true → cont toks s (sym :: rest) = cont toks s.step (m ++ rest)) ∧ (takes toks w s = false → cont toks s (sym :: rest) = cont toks s rest) := by
  constructor
  · intro h
    rw [takes_eq hw.2.2.2] at h
    simp only [Bool.and_eq_true, Bool.not_eq_true', beq_iff_eq] at h
    have hb : becomesF sym (tAt toks s.next) = some (w :: m) := by rw [hc, if_pos (by simpa using h.2)]
    rw [cont_run h.1, run_some hb, List.cons_append, run_word hw.1 hw.2.1 hw.2.2.1 hw.2.2.2 h.2]
    exact cont_step h.1 _
  · intro h
    cases hf : s.failed
    · rw [takes_eq hw.2.2.2] at h
      simp [hf] at h
      have hb : becomesF sym (tAt toks s.next) = some [] := by rw [hc, if_neg (by simpa using h)]
      rw [cont_run hf, run_some hb, cont_run hf]; rfl
    · rw [cont_failed hf, cont_failed hf]
theorem comma_ok : wComma ∉ allS ∧ wComma ≠ sCOL ∧ wComma ≠ sNUM ∧ wComma ≠ [] := ⟨by decide, by decide, by decide, by decide⟩
theorem sim_byR (toks : List Tok) (len : Nat) : Sim toks [sCOL, sCOLS] (byR toks len) := by
  intro s rest
  induction s using byR_ind (toks := toks) (len := len) with
  | case1 s h ih =>
    rw [byR_eq, dif_pos h, ← ih, show [sCOL, sCOLS] ++ rest = [sCOL] ++ (sCOLS :: rest) from rfl, sim_byStep toks len, (opt_word comma_ok bec_COLS).1 h]; rfl
  | case2 s h =>
    rw [byR_eq, dif_neg h, show [sCOL, sCOLS] ++ rest = [sCOL] ++ (sCOLS :: rest) from rfl, sim_byStep toks len, (opt_word comma_ok bec_COLS).2 (by simpa using h)]
theorem sim_keyR (toks : List Tok) (len : Nat) : Sim toks [sCOL, sDESC, sKEYS] (keyR toks len) := by
  intro s rest
  induction s using keyR_ind (toks := toks) (len := len) with
  | case1 s h ih =>
    rw [keyR_eq, dif_pos h, ← ih, show [sCOL, sDESC, sKEYS] ++ rest = [sCOL, sDESC] ++ (sKEYS :: rest) from rfl, sim_keyStep toks len, (opt_word comma_ok bec_KEYS).1 h]; rfl
  | case2 s h =>
    rw [keyR_eq, dif_neg h, show [sCOL, sDESC, sKEYS] ++ rest = [sCOL, sDESC] ++ (sKEYS :: rest) from rfl, sim_keyStep toks len, (opt_word comma_ok bec_KEYS).2 (by simpa using h)]
theorem sim_funR {toks : List Tok} (hT : NumToks toks) (len : Nat) : Sim toks [sFUNC, sFUNCS] (funR toks len) := by
  intro s rest
  induction s using funR_ind (toks := toks) (len := len) with
  | case1 s h ih =>
    rw [funR_eq, dif_pos h, ← ih, show [sFUNC, sFUNCS] ++ rest = [sFUNC] ++ (sFUNCS :: rest) from rfl, sim_funStep hT len, (opt_word comma_ok bec_FUNCS).1 h]; rfl
  | case2 s h =>
    rw [funR_eq, dif_neg h, show [sFUNC, sFUNCS] ++ rest = [sFUNC] ++ (sFUNCS :: rest) from rfl, sim_funStep hT len, (opt_word comma_ok bec_FUNCS).2 (by simpa using h)]
theorem sim_q1 (toks : List Tok) (len : Nat) : Sim toks [sBY] (q1 toks len) := by
  intro s rest
  have e := opt_word (toks := toks) (s := s) (rest := rest) (sym := sBY) (w := wBy) (m := [sCOL, sCOLS]) ⟨by decide, by decide, by decide, by decide⟩ bec_BY
  unfold q1
  cases ht : takes toks wBy s
  · exact e.2 ht
  · show cont toks s (sBY :: rest) = cont toks (byR toks len s.step) rest
    rw [e.1 ht, sim_byR toks len]
theorem sim_top {toks : List Tok} (hT : NumToks toks) : Sim toks [sNUM, sFROM] (topS toks) := by
  intro s rest
  have e1 : cont toks s ([sNUM] ++ (sFROM :: rest)) = cont toks (top1 toks s) (sFROM :: rest) := by
    have e := sim_num hT { s with hasTop := true } (sFROM :: rest)
    exact e
  show cont toks s ([sNUM] ++ (sFROM :: rest)) = _
  rw [e1]
  have e := opt_word (toks := toks) (s := top1 toks s) (rest := rest) (sym := sFROM) (w := wFrom) (m := [sNUM]) ⟨by decide, by decide, by decide, by decide⟩ bec_FROM
  unfold topS
  cases ht : takes toks wFrom (top1 toks s)
  · exact e.2 ht
  · show _ = cont toks { numS toks (top1 toks s).step with frm := numV toks (top1 toks s).step } rest
    rw [e.1 ht, sim_num hT]; rfl
theorem sim_q4 {toks : List Tok} (hT : NumToks toks) (s : PS) (f : PS → PS) (rest : List Bytes) : cont toks (f s) (sTOP :: rest) = cont toks (if takes toks wTop (f s) then topS toks (f s).step else f s) rest := by
  have e := opt_word (toks := toks) (s := f s) (rest := rest) (sym := sTOP) (w := wTop) (m := [sNUM, sFROM]) ⟨by decide, by decide, by decide, by decide⟩ bec_TOP
  cases ht : takes toks wTop (f s)
  · exact e.2 ht
  · show _ = cont toks (topS toks (f s).step) rest
    rw [e.1 ht, sim_top hT]
theorem run_query {toks : List Tok} (hT : NumToks toks) (len : Nat) : run toks start 0 = ((q4 toks len ps0).failed, (q4 toks len ps0).next) := by
  have h : Sim toks [sBY, [111, 114, 100, 101, 114], sCOL, sDESC, sKEYS, [115, 104, 111, 119], sFUNC, sFUNCS] (q3 toks len) :=
    (sim_q1 toks len).comp ((sim_word toks (t := wOrder) (by decide) (by decide) (by decide) (by decide)).comp ((sim_keyR toks len).comp ((sim_word toks (t := wShow) (by decide) (by decide) (by decide) (by decide)).comp (sim_funR hT len))))
  have e := h ps0 [sTOP]
  rw [cont_run rfl] at e
  have e2 := sim_q4 hT ps0 (q3 toks len) []
  rw [show q3 toks len ps0 = (q3 toks len) ps0 from rfl] at e
  show run toks (start) ps0.next = _
  rw [show start = [sBY, [111, 114, 100, 101, 114], sCOL, sDESC, sKEYS, [115, 104, 111, 119], sFUNC, sFUNCS] ++ [sTOP] from rfl, e, e2]
  show cont toks (q4 toks len ps0) [] = _
  unfold cont
  rw [run_nil]
  cases (q4 toks len ps0).failed <;> rfl
theorem bad_eq {toks : List Tok} (hT : NumToks toks) (len : Nat) : bad toks = (queryS toks len ps0).failed := by
  unfold bad queryS endS
  rw [run_query hT len]
  by_cases h : (q4 toks len ps0).next < toks.length
  · simp [h, PS.fail]
  · simp [h]
theorem pAt_eq {toks : List Tok} (hT : NumToks toks) (len : Nat) : (pAt toks len (run toks start 0).2 : Int) = placeS toks len (queryS toks len ps0) := by
  rw [run_query hT len]
  unfold queryS placeS pAt
  rw [endS_next]
  cases toks[(q4 toks len ps0).next]? <;> rfl
theorem lexFrom_num (l : Bytes) (n : Nat) : NumToks (lexFrom l n).1 := by
  induction n using lexFrom_ind (l := l) with
  | case1 n h hb ih => rw [lexFrom_blk h hb]; exact ih
  | case2 n h hb he => rw [lexFrom_bad h (by simpa using hb) he]; intro t ht; cases ht
  | case3 n h hb he ih =>
    rw [lexFrom_tok h (by simpa using hb) (by omega)]
    intro t ht
    rcases List.mem_cons.1 ht with rfl | ht
    · simp only
      have e : ((l.take (tokEnd l n)).drop n).head? = some l[n] := by
        rw [List.head?_drop, List.getElem?_take_of_lt (by omega), List.getElem?_eq_getElem h]
      cases hq : (l.take (tokEnd l n)).drop n with
      | nil => rw [hq] at e; cases e
      | cons a r => rw [hq] at e; simp at e; simp [numT, e]
    · exact ih t ht
  | case4 n h => rw [lexFrom_end h]; intro t ht; cases ht
end Pr
end Go.Proofs.YtcoofnhdbejnpaaDoor
