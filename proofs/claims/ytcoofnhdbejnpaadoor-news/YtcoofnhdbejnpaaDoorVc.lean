/- Plain functions: package panesref's stack of symbols. -/
import Derived.Test.YtcoofnhdbejnpaaDoorVb
namespace Go.Proofs.YtcoofnhdbejnpaaDoor
namespace Pr
open Pq
def nulls : List Bytes := [sBY, sCOLS, sKEYS, sDESC, sFUNCS, sTOP, sFROM]
def rank (s : Bytes) : Nat := if nulls.contains s then 3 else if s == sFRAME then 2 else if s == sFUNC then 1 else if s == sEDGE then 1 else if s == sSIDE then 1 else 0
def cc (s : Bytes) : Nat := if nulls.contains s then 6 else if s == sFRAME then 6 else if s == sFUNC then 6 else if s == sEDGE then 4 else if s == sSIDE then 4 else 0
theorem cc_le (s : Bytes) : cc s ≤ 6 := by
  unfold cc
  repeat' split
  all_goals omega
theorem rank_le (s : Bytes) : rank s ≤ 3 := by
  unfold rank
  repeat' split
  all_goals omega
def BecOk (sym : Bytes) (m : List Bytes) : Prop := (m = [] ∧ rank sym = 3 ∧ cc sym = 6) ∨ ∃ x r, m = x :: r ∧ rank x < rank sym ∧ rank x ≠ 3 ∧ m.length + cc x ≤ 1 + cc sym
theorem becOk_cons {sym x : Bytes} {r : List Bytes} (h1 : rank x < rank sym) (h2 : rank x ≠ 3) (h3 : (x :: r).length + cc x ≤ 1 + cc sym) : BecOk sym (x :: r) := .inr ⟨x, r, rfl, h1, h2, h3⟩
theorem bec_BY (t : Bytes) : becomesF sBY t = if (t == [98, 121]) then (some [[98, 121], sCOL, sCOLS]) else some [] := rfl
theorem bec_COLS (t : Bytes) : becomesF sCOLS t = if (t == [44]) then (some [[44], sCOL, sCOLS]) else some [] := rfl
theorem bec_KEYS (t : Bytes) : becomesF sKEYS t = if (t == [44]) then (some [[44], sCOL, sDESC, sKEYS]) else some [] := rfl
theorem bec_DESC (t : Bytes) : becomesF sDESC t = if (t == [100, 101, 115, 99]) then (some [[100, 101, 115, 99]]) else some [] := rfl
theorem bec_FUNCS (t : Bytes) : becomesF sFUNCS t = if (t == [44]) then (some [[44], sFUNC, sFUNCS]) else some [] := rfl
theorem bec_TOP (t : Bytes) : becomesF sTOP t = if (t == [116, 111, 112]) then (some [[116, 111, 112], sNUM, sFROM]) else some [] := rfl
theorem bec_FROM (t : Bytes) : becomesF sFROM t = if (t == [102, 114, 111, 109]) then (some [[102, 114, 111, 109], sNUM]) else some [] := rfl
theorem bec_FUNC (t : Bytes) : becomesF sFUNC t = if inW t [[110, 117, 109, 98, 101, 114], [114, 97, 110, 107], [100, 101, 110, 115, 101]] then (some [t]) else if (t == [116, 105, 108, 101]) then (some [[116, 105, 108, 101], [40], sNUM, [41]]) else if (t == [108, 97, 103]) then (some [t, [40], sCOL, [44], sNUM, [41]]) else if (t == [108, 101, 97, 100]) then (some [t, [40], sCOL, [44], sNUM, [41]]) else if inW t [[99, 111, 117, 110, 116], [115, 117, 109], [109, 105, 110], [109, 97, 120], [102, 105, 114, 115, 116], [108, 97, 115, 116]] then (some [t, [40], sCOL, [44], sFRAME, [41]]) else some [[116, 105, 108, 101]] := rfl
theorem bec_FRAME (t : Bytes) : becomesF sFRAME t = if (t == [97, 108, 108]) then (some [t]) else if (t == [112, 101, 101, 114, 115]) then (some [t]) else if (t == [110, 101, 97, 114]) then (some [[110, 101, 97, 114], sNUM]) else some [sEDGE, [116, 111], sEDGE] := rfl
theorem bec_EDGE (t : Bytes) : becomesF sEDGE t = if inW t [[115, 116, 97, 114, 116], [101, 110, 100], [104, 101, 114, 101]] then (some [t]) else if numT t then (some [sNUM, sSIDE]) else some [[104, 101, 114, 101]] := rfl
theorem bec_SIDE (t : Bytes) : becomesF sSIDE t = if (t == [98, 97, 99, 107]) then (some [[98, 97, 99, 107]]) else some [[111, 110]] := rfl
theorem inW_mem {t : Bytes} {ws : List Bytes} (h : inW t ws = true) : t ∈ ws := List.contains_iff_mem.1 h
def allS : List Bytes := [sBY, sCOLS, sKEYS, sDESC, sFUNCS, sTOP, sFROM, sFUNC, sFRAME, sEDGE, sSIDE]
theorem bec_none {sym : Bytes} (h : sym ∉ allS) (t : Bytes) : becomesF sym t = none := by
  simp only [allS, List.mem_cons, List.not_mem_nil, or_false, not_or] at h
  obtain ⟨h0, h1, h2, h3, h4, h5, h6, h7, h8, h9, h10⟩ := h
  have e : ∀ a : Bytes, sym ≠ a → (sym == a) = false := fun a ha => by simpa using ha
  unfold becomesF partsF
  rw [e _ h0, e _ h1, e _ h2, e _ h3, e _ h4, e _ h5, e _ h6, e _ h7, e _ h8, e _ h9, e _ h10]
  rfl
theorem bec_ok {sym t : Bytes} {m : List Bytes} (h : becomesF sym t = some m) : BecOk sym m := by
  by_cases hall : sym ∈ allS
  · simp only [allS, List.mem_cons, List.not_mem_nil, or_false] at hall
    rcases hall with rfl | rfl | rfl | rfl | rfl | rfl | rfl | rfl | rfl | rfl | rfl
    · rw [bec_BY] at h
      cases c1 : (t == [98, 121])
      · rw [c1] at h
        cases h
        exact .inl ⟨rfl, by decide, by decide⟩
      · rw [c1] at h
        cases h
        exact becOk_cons (by decide) (by decide) (by decide)
    · rw [bec_COLS] at h
      cases c2 : (t == [44])
      · rw [c2] at h
        cases h
        exact .inl ⟨rfl, by decide, by decide⟩
      · rw [c2] at h
        cases h
        exact becOk_cons (by decide) (by decide) (by decide)
    · rw [bec_KEYS] at h
      cases c3 : (t == [44])
      · rw [c3] at h
        cases h
        exact .inl ⟨rfl, by decide, by decide⟩
      · rw [c3] at h
        cases h
        exact becOk_cons (by decide) (by decide) (by decide)
    · rw [bec_DESC] at h
      cases c4 : (t == [100, 101, 115, 99])
      · rw [c4] at h
        cases h
        exact .inl ⟨rfl, by decide, by decide⟩
      · rw [c4] at h
        cases h
        exact becOk_cons (by decide) (by decide) (by decide)
    · rw [bec_FUNCS] at h
      cases c5 : (t == [44])
      · rw [c5] at h
        cases h
        exact .inl ⟨rfl, by decide, by decide⟩
      · rw [c5] at h
        cases h
        exact becOk_cons (by decide) (by decide) (by decide)
    · rw [bec_TOP] at h
      cases c6 : (t == [116, 111, 112])
      · rw [c6] at h
        cases h
        exact .inl ⟨rfl, by decide, by decide⟩
      · rw [c6] at h
        cases h
        exact becOk_cons (by decide) (by decide) (by decide)
    · rw [bec_FROM] at h
      cases c7 : (t == [102, 114, 111, 109])
      · rw [c7] at h
        cases h
        exact .inl ⟨rfl, by decide, by decide⟩
      · rw [c7] at h
        cases h
        exact becOk_cons (by decide) (by decide) (by decide)
    · rw [bec_FUNC] at h
      cases c8 : inW t [[110, 117, 109, 98, 101, 114], [114, 97, 110, 107], [100, 101, 110, 115, 101]]
      · rw [c8] at h
        cases c9 : (t == [116, 105, 108, 101])
        · rw [c9] at h
          cases c10 : (t == [108, 97, 103])
          · rw [c10] at h
            cases c11 : (t == [108, 101, 97, 100])
            · rw [c11] at h
              cases c12 : inW t [[99, 111, 117, 110, 116], [115, 117, 109], [109, 105, 110], [109, 97, 120], [102, 105, 114, 115, 116], [108, 97, 115, 116]]
              · rw [c12] at h
                cases h
                exact becOk_cons (by decide) (by decide) (by decide)
              · rw [c12] at h
                cases h
                have hm := inW_mem c12
                simp only [List.mem_cons, List.not_mem_nil, or_false] at hm
                rcases hm with rfl | rfl | rfl | rfl | rfl | rfl <;> exact becOk_cons (by decide) (by decide) (by decide)
            · rw [c11] at h
              cases h
              cases eq_of_beq c11
              exact becOk_cons (by decide) (by decide) (by decide)
          · rw [c10] at h
            cases h
            cases eq_of_beq c10
            exact becOk_cons (by decide) (by decide) (by decide)
        · rw [c9] at h
          cases h
          exact becOk_cons (by decide) (by decide) (by decide)
      · rw [c8] at h
        cases h
        have hm := inW_mem c8
        simp only [List.mem_cons, List.not_mem_nil, or_false] at hm
        rcases hm with rfl | rfl | rfl <;> exact becOk_cons (by decide) (by decide) (by decide)
    · rw [bec_FRAME] at h
      cases c13 : (t == [97, 108, 108])
      · rw [c13] at h
        cases c14 : (t == [112, 101, 101, 114, 115])
        · rw [c14] at h
          cases c15 : (t == [110, 101, 97, 114])
          · rw [c15] at h
            cases h
            exact becOk_cons (by decide) (by decide) (by decide)
          · rw [c15] at h
            cases h
            exact becOk_cons (by decide) (by decide) (by decide)
        · rw [c14] at h
          cases h
          cases eq_of_beq c14
          exact becOk_cons (by decide) (by decide) (by decide)
      · rw [c13] at h
        cases h
        cases eq_of_beq c13
        exact becOk_cons (by decide) (by decide) (by decide)
    · rw [bec_EDGE] at h
      cases c16 : inW t [[115, 116, 97, 114, 116], [101, 110, 100], [104, 101, 114, 101]]
      · rw [c16] at h
        cases c17 : numT t
        · rw [c17] at h
          cases h
          exact becOk_cons (by decide) (by decide) (by decide)
        · rw [c17] at h
          cases h
          exact becOk_cons (by decide) (by decide) (by decide)
      · rw [c16] at h
        cases h
        have hm := inW_mem c16
        simp only [List.mem_cons, List.not_mem_nil, or_false] at hm
        rcases hm with rfl | rfl | rfl <;> exact becOk_cons (by decide) (by decide) (by decide)
    · rw [bec_SIDE] at h
      cases c18 : (t == [98, 97, 99, 107])
      · rw [c18] at h
        cases h
        exact becOk_cons (by decide) (by decide) (by decide)
      · rw [c18] at h
        cases h
        exact becOk_cons (by decide) (by decide) (by decide)
  · rw [bec_none hall] at h; cases h
/-- how much the head may still unfold -/
def sec : List Bytes → Nat | [] => 0 | s :: r => if rank s = 3 then 3 + r.length else rank s
def grow : List Bytes → Nat | [] => 0 | s :: _ => cc s
theorem sec_lt {sym t : Bytes} {m r : List Bytes} (h : becomesF sym t = some m) : sec (m ++ r) < sec (sym :: r) := by
  rcases bec_ok h with ⟨rfl, h3, _⟩ | ⟨x, r', rfl, h1, h2, _⟩
  · simp only [List.nil_append]
    show _ < if rank sym = 3 then 3 + r.length else rank sym
    rw [if_pos h3]
    cases r with
    | nil => simp [sec]
    | cons a b =>
      have := rank_le a
      simp only [sec, List.length_cons]; split <;> omega
  · show (if rank x = 3 then _ else rank x) < if rank sym = 3 then 3 + r.length else rank sym
    rw [if_neg h2]; split <;> omega
theorem grow_le {sym t : Bytes} {m r : List Bytes} (h : becomesF sym t = some m) : (m ++ r).length + grow (m ++ r) ≤ (sym :: r).length + grow (sym :: r) := by
  rcases bec_ok h with ⟨rfl, h3, h6⟩ | ⟨x, r', rfl, h1, h2, h6⟩
  · simp only [List.nil_append, List.length_cons]
    show _ ≤ _ + cc sym
    rw [h6]
    cases r with
    | nil => simp [grow]
    | cons a b => have := cc_le a; simp only [grow, List.length_cons]; omega
  · simp only [List.length_append, List.length_cons] at h6 ⊢
    show _ + cc x ≤ _ + cc sym
    omega
theorem sec_le (ws : List Bytes) : sec ws ≤ 3 + ws.length := by
  cases ws with
  | nil => simp [sec]
  | cons a b => have := rank_le a; simp only [sec, List.length_cons]; split <;> omega
theorem grow_six (ws : List Bytes) : grow ws ≤ 6 := by cases ws with | nil => simp [grow] | cons a b => exact cc_le a
/-- the token at hand: empty, behind the last -/
def tAt (toks : List Tok) (i : Nat) : Bytes := match toks[i]? with | some x => x.text | none => []
def pAt (toks : List Tok) (len i : Nat) : Nat := match toks[i]? with | some x => x.at' | none => len
theorem fits_lt {toks : List Tok} {sym : Bytes} {i : Nat} (h : fitsF sym (tAt toks i) = true) : i < toks.length := by
  rcases Nat.lt_or_ge i toks.length with hl | hl
  · exact hl
  · unfold tAt at h; rw [List.getElem?_eq_none hl] at h; simp [fitsF] at h
/-- the head unfolded, with the token t at hand, till it is a token, COL or NUM; in so many steps at most -/
def expand (t : Bytes) : Nat → List Bytes → List Bytes
  | 0, ws => ws
  | _ + 1, [] => []
  | f + 1, sym :: r => match becomesF sym t with | some m => expand t f (m ++ r) | none => sym :: r
theorem expand_same (t : Bytes) : ∀ (f g : Nat) (ws : List Bytes), sec ws ≤ f → sec ws ≤ g → expand t f ws = expand t g ws
  | 0, 0, _, _, _ => rfl
  | 0, g + 1, [], _, _ => rfl
  | f + 1, 0, [], _, _ => rfl
  | f + 1, g + 1, [], _, _ => rfl
  | 0, g + 1, sym :: r, h, _ => by
    have hn : becomesF sym t = none := by
      cases hb : becomesF sym t with
      | none => rfl
      | some m => have := sec_lt (r := r) hb; omega
    simp only [expand, hn]
  | f + 1, 0, sym :: r, _, h => by
    have hn : becomesF sym t = none := by
      cases hb : becomesF sym t with
      | none => rfl
      | some m => have := sec_lt (r := r) hb; omega
    simp only [expand, hn]
  | f + 1, g + 1, sym :: r, h1, h2 => by
    cases hb : becomesF sym t with
    | none => simp only [expand, hb]
    | some m =>
      have h3 := sec_lt (r := r) hb
      simp only [expand, hb]
      exact expand_same t f g (m ++ r) (by omega) (by omega)
/-- the symbols that must come, from the token i on, of which so many are left: has it failed, and where it stands -/
def runF (toks : List Tok) : Nat → List Bytes → Nat → Bool × Nat
  | 0, ws, i => match expand (tAt toks i) (sec ws) ws with | [] => (false, i) | _ :: _ => (true, i)
  | n + 1, ws, i => match expand (tAt toks i) (sec ws) ws with | [] => (false, i) | sym :: r => if fitsF sym (tAt toks i) = true then runF toks n r (i + 1) else (true, i)
/-- the symbols that must come, from the token i on: has it failed, and where it stands -/
def run (toks : List Tok) (ws : List Bytes) (i : Nat) : Bool × Nat := runF toks (toks.length - i) ws i
theorem runF_congr (toks : List Tok) (n : Nat) {ws ws' : List Bytes} {i : Nat} (h : expand (tAt toks i) (sec ws) ws = expand (tAt toks i) (sec ws') ws') : runF toks n ws i = runF toks n ws' i := by
  cases n with
  | zero => rw [runF, runF, h]
  | succ n => rw [runF, runF, h]
theorem run_nil (toks : List Tok) (i : Nat) : run toks [] i = (false, i) := by
  unfold run
  cases toks.length - i with
  | zero => rfl
  | succ n => rfl
theorem run_some {toks : List Tok} {sym : Bytes} {r m : List Bytes} {i : Nat} (h : becomesF sym (tAt toks i) = some m) : run toks (sym :: r) i = run toks (m ++ r) i := by
  have h3 := sec_lt (r := r) h
  refine runF_congr toks _ ?_
  rw [show sec (sym :: r) = (sec (sym :: r) - 1) + 1 by omega]
  simp only [expand, h]
  exact expand_same _ _ _ _ (by omega) (Nat.le_refl _)
theorem expand_none {sym t : Bytes} {r : List Bytes} (h : becomesF sym t = none) : ∀ f, expand t f (sym :: r) = sym :: r
  | 0 => rfl
  | _ + 1 => by simp only [expand, h]
theorem run_fit {toks : List Tok} {sym : Bytes} {r : List Bytes} {i : Nat} (h : becomesF sym (tAt toks i) = none) (h2 : fitsF sym (tAt toks i) = true) : run toks (sym :: r) i = run toks r (i + 1) := by
  have hl := fits_lt h2
  unfold run
  rw [show toks.length - i = (toks.length - (i + 1)) + 1 by omega, runF, expand_none h]
  simp only [h2, if_true]
theorem run_bad {toks : List Tok} {sym : Bytes} {r : List Bytes} {i : Nat} (h : becomesF sym (tAt toks i) = none) (h2 : fitsF sym (tAt toks i) = false) : run toks (sym :: r) i = (true, i) := by
  unfold run
  cases toks.length - i with
  | zero => rw [runF, expand_none h]
  | succ n => rw [runF, expand_none h]; simp only [h2, Bool.false_eq_true, if_false]
def start : List Bytes := [sBY, [111, 114, 100, 101, 114], sCOL, sDESC, sKEYS, [115, 104, 111, 119], sFUNC, sFUNCS, sTOP]
def bad (toks : List Tok) : Bool := (run toks start 0).1 || decide ((run toks start 0).2 < toks.length)
end Pr
end Go.Proofs.YtcoofnhdbejnpaaDoor
