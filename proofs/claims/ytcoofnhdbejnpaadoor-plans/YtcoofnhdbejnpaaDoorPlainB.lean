/- Plain functions: what package panesref's token reader answers, and that it is what package queries' answers. -/
import Derived.Test.YtcoofnhdbejnpaaDoorPlainA
namespace Go.Proofs.YtcoofnhdbejnpaaDoor
namespace Pr
open Pq
def jn (a b : UInt8) : Bool := (isDig a && isDig b) || (isLet a && isLet b)
/-- where the row of bytes that belong together and goes on at k ends; in so many steps at most -/
def jFuel (l : Bytes) : Nat → Nat → Nat
  | 0, k => k
  | f + 1, k => if h : k < l.length then (if jn (l[k - 1]'(by omega)) l[k] then jFuel l f (k + 1) else k) else k
def jEnd (l : Bytes) (k : Nat) : Nat := jFuel l (l.length - k) k
theorem jEnd_stop {l : Bytes} {k : Nat} (h : k < l.length) (hj : jn (l[k - 1]'(by omega)) l[k] = false) : jEnd l k = k := by
  unfold jEnd; rw [show l.length - k = (l.length - (k + 1)) + 1 by omega, jFuel, dif_pos h, if_neg (by simp [hj])]
theorem jEnd_step {l : Bytes} {k : Nat} (h : k < l.length) (hj : jn (l[k - 1]'(by omega)) l[k] = true) : jEnd l k = jEnd l (k + 1) := by
  unfold jEnd; rw [show l.length - k = (l.length - (k + 1)) + 1 by omega, jFuel, dif_pos h, if_pos hj]
theorem jEnd_end {l : Bytes} {k : Nat} (h : ¬ k < l.length) : jEnd l k = k := by
  unfold jEnd; rw [show l.length - k = 0 by omega]; rfl
theorem jEnd_ind {l : Bytes} {motive : Nat → Prop} (case1 : ∀ k (h : k < l.length), jn (l[k - 1]'(by omega)) l[k] = true → motive (k + 1) → motive k) (case2 : ∀ k (h : k < l.length), ¬ jn (l[k - 1]'(by omega)) l[k] = true → motive k) (case3 : ∀ k, ¬ k < l.length → motive k) (k : Nat) : motive k := by
  have key : ∀ f k, l.length ≤ f + k → motive k := by
    intro f
    induction f with
    | zero => intro k h; exact case3 k (by omega)
    | succ f ih =>
      intro k hk
      by_cases h : k < l.length
      · by_cases hj : jn (l[k - 1]'(by omega)) l[k] = true
        · exact case1 k h hj (ih (k + 1) (by omega))
        · exact case2 k h hj
      · exact case3 k h
  exact key l.length k (by omega)
theorem jEnd_ge (l : Bytes) (k : Nat) : k ≤ jEnd l k := by
  induction k using jEnd_ind (l := l) with
  | case1 k h hj ih => rw [jEnd_step h hj]; omega
  | case2 k h hj => rw [jEnd_stop h (by simpa using hj)]; omega
  | case3 k h => rw [jEnd_end h]; omega
theorem jEnd_le (l : Bytes) (k : Nat) (hk : k ≤ l.length) : jEnd l k ≤ l.length := by
  induction k using jEnd_ind (l := l) with
  | case1 k h hj ih => rw [jEnd_step h hj]; exact ih h
  | case2 k h hj => rw [jEnd_stop h (by simpa using hj)]; exact hk
  | case3 k h => rw [jEnd_end h]; exact hk
theorem dig_let {c : UInt8} (h : isDig c = true) : isLet c = false := by
  simp only [isDig, Bool.and_eq_true, decide_eq_true_eq] at h
  simp only [isLet, Bool.and_eq_false_iff, decide_eq_false_iff_not]; omega
theorem let_dig {c : UInt8} (h : isLet c = true) : isDig c = false := by
  cases hd : isDig c
  · rfl
  · rw [dig_let hd] at h; cases h
theorem let_sgn {c : UInt8} (h : isLet c = true) : isSgn c = false := by
  simp only [isLet, Bool.and_eq_true, decide_eq_true_eq] at h
  simp only [isSgn, Bool.or_eq_false_iff, beq_eq_false_iff_ne]; omega
theorem sgn_dig {c : UInt8} (h : isSgn c = true) : isDig c = false := by
  cases hd : isDig c
  · rfl
  · rw [isSgn_not_dig hd] at h; cases h
theorem sgn_let {c : UInt8} (h : isSgn c = true) : isLet c = false := by
  cases hd : isLet c
  · rfl
  · rw [let_sgn hd] at h; cases h
theorem jn_dig {a b : UInt8} (h : isDig a = true) : jn a b = isDig b := by simp [jn, h, dig_let h]
theorem jn_let {a b : UInt8} (h : isLet a = true) : jn a b = isLet b := by simp [jn, h, let_dig h]
theorem jn_no {a b : UInt8} (h : isDig a = false) (h2 : isLet a = false) : jn a b = false := by simp [jn, h, h2]
theorem jEnd_row (p : UInt8 → Bool) (hp : ∀ a b, p a = true → jn a b = p b) (l : Bytes) (k : Nat) (hk : 0 < k) (hkl : k ≤ l.length) (h1 : p (l[k - 1]'(by omega)) = true) : jEnd l k = rowEnd p l k := by
  induction k using jEnd_ind (l := l) with
  | case1 k h hj ih =>
    have e : p l[k] = true := by rw [← hp _ _ h1]; exact hj
    rw [jEnd_step h hj, rowEnd_step h e]
    exact ih (by omega) (by omega) (by simpa using e)
  | case2 k h hj =>
    have e : p l[k] = false := by rw [← hp _ _ h1]; simpa using hj
    rw [jEnd_stop h (by simpa using hj), rowEnd_stop h e]
  | case3 k h => rw [jEnd_end h, rowEnd_end (by omega)]
def signs : List Bytes := [[40], [41], [44]]
/-- is the word one of these? -/
def inW (t : Bytes) (ws : List Bytes) : Bool := ws.contains t
def tokT (l : Bytes) (i : Nat) : Bytes := (l.take (jEnd l (i + 1))).drop i
def tokOk (l : Bytes) (i : Nat) (c : UInt8) : Bool := inW (tokT l i) signs || (isDig c && decide ((tokT l i).length ≤ 2)) || (isLet c && decide ((tokT l i).length ≤ 8))
theorem tokT_len (l : Bytes) (i : Nat) (h : i < l.length) : (tokT l i).length = jEnd l (i + 1) - i := by
  have := jEnd_le l (i + 1) h
  unfold tokT; rw [List.length_drop, List.length_take]; omega
theorem tokT_head (l : Bytes) (i : Nat) (h : i < l.length) : (tokT l i).head? = some l[i] := by
  have := jEnd_ge l (i + 1)
  unfold tokT; rw [List.head?_drop, List.getElem?_take_of_lt (by omega), List.getElem?_eq_getElem h]
theorem sgn_mem {c : UInt8} : signs.contains [c] = isSgn c := by
  have e : ∀ n : Nat, n < 256 → (c == UInt8.ofNat n) = ((c.toNat : Int) == (n : Int)) := by
    intro n hn
    rw [Bool.eq_iff_iff]; simp only [beq_iff_eq]
    constructor
    · intro h; rw [h]; simp; omega
    · intro h; apply UInt8.toNat_inj.1; simp; omega
  have e1 := e 40 (by omega); have e2 := e 41 (by omega); have e3 := e 44 (by omega)
  simp only [signs, List.contains_cons, List.contains_nil, isSgn, Bool.or_false]
  have f : ∀ a b : UInt8, ([a] == [b]) = (a == b) := fun a b => by simp [List.cons_beq_cons]
  rw [f, f, f, Bool.or_assoc]
  rw [show (40 : UInt8) = UInt8.ofNat 40 from rfl, show (41 : UInt8) = UInt8.ofNat 41 from rfl, show (44 : UInt8) = UInt8.ofNat 44 from rfl, e1, e2, e3]; rfl
theorem sgn_head {t : Bytes} {c : UInt8} (h : t.head? = some c) (hc : isSgn c = false) : signs.contains t = false := by
  cases t with
  | nil => cases h
  | cons a r =>
    simp at h; subst h
    rw [Bool.eq_false_iff]; intro hm
    rw [List.contains_iff_mem] at hm
    simp only [signs, List.mem_cons, List.not_mem_nil, or_false, List.cons.injEq] at hm
    rcases hm with ⟨rfl, _⟩ | ⟨rfl, _⟩ | ⟨rfl, _⟩ <;> cases hc
theorem tok_ok (l : Bytes) (i : Nat) (h : i < l.length) : tokOk l i l[i] = decide (i < tokEnd l i) ∧ (i < tokEnd l i → tokEnd l i = jEnd l (i + 1)) := by
  have hlen := tokT_len l i h
  have hhd := tokT_head l i h
  have hge := jEnd_ge l (i + 1)
  cases hS : isSgn l[i]
  · have hsc := sgn_head hhd hS
    unfold tokOk inW; rw [hsc, hlen]
    cases hD : isDig l[i]
    · cases hL : isLet l[i]
      · have e : tokEnd l i = i := by unfold tokEnd; rw [dif_pos h]; simp [hS, hD, hL]
        rw [e]; simp
      · have ej : jEnd l (i + 1) = rowEnd isLet l i := by
          rw [rowEnd_step h hL]; exact jEnd_row isLet (fun a b => jn_let) l (i + 1) (by omega) h (by simpa using hL)
        have e : tokEnd l i = if rowEnd isLet l i - i > 8 then i else rowEnd isLet l i := by unfold tokEnd; rw [dif_pos h]; simp [hS, hD, hL]
        rw [e, ej]
        rw [ej] at hge
        by_cases h8 : rowEnd isLet l i - i > 8
        · rw [if_pos h8]; simp; omega
        · rw [if_neg h8]; simp; omega
    · have hL := dig_let hD
      have ej : jEnd l (i + 1) = rowEnd isDig l i := by
        rw [rowEnd_step h hD]; exact jEnd_row isDig (fun a b => jn_dig) l (i + 1) (by omega) h (by simpa using hD)
      have e : tokEnd l i = if rowEnd isDig l i - i > 2 then i else rowEnd isDig l i := by unfold tokEnd; rw [dif_pos h]; simp [hS, hD]
      rw [e, ej, hL]
      rw [ej] at hge
      by_cases h8 : rowEnd isDig l i - i > 2
      · rw [if_pos h8]; simp; omega
      · rw [if_neg h8]; simp; omega
  · have hj : jEnd l (i + 1) = i + 1 := by
      by_cases hl : i + 1 < l.length
      · exact jEnd_stop hl (jn_no (by simpa using sgn_dig hS) (by simpa using sgn_let hS))
      · exact jEnd_end hl
    have e : tokEnd l i = i + 1 := by unfold tokEnd; rw [dif_pos h]; simp [hS]
    have et : tokT l i = [l[i]] := by
      rw [hj] at hlen
      match hq : tokT l i with
      | [] => rw [hq] at hhd; cases hhd
      | [a] => rw [hq] at hhd; simp at hhd; rw [hhd]
      | a :: b :: r => rw [hq] at hlen; simp at hlen
    unfold tokOk inW
    rw [et, sgn_mem, hS, e, hj]; simp
end Pr
end Go.Proofs.YtcoofnhdbejnpaaDoor
/- Plain functions: what package panesref's symbols become, and what fits them. -/
namespace Go.Proofs.YtcoofnhdbejnpaaDoor
namespace Pr
open Pq
abbrev sBY : Bytes := [66, 89]
abbrev sCOLS : Bytes := [67, 79, 76, 83]
abbrev sKEYS : Bytes := [75, 69, 89, 83]
abbrev sDESC : Bytes := [68, 69, 83, 67]
abbrev sFUNCS : Bytes := [70, 85, 78, 67, 83]
abbrev sTOP : Bytes := [84, 79, 80]
abbrev sFROM : Bytes := [70, 82, 79, 77]
abbrev sFUNC : Bytes := [70, 85, 78, 67]
abbrev sFRAME : Bytes := [70, 82, 65, 77, 69]
abbrev sEDGE : Bytes := [69, 68, 71, 69]
abbrev sSIDE : Bytes := [83, 73, 68, 69]
abbrev sCOL : Bytes := [67, 79, 76]
abbrev sNUM : Bytes := [78, 85, 77]
/-- does the token begin with a digit? -/
def numT (t : Bytes) : Bool := match t with | [] => false | c :: _ => isDig c
def partsF (sym t : Bytes) : Option (List Bytes) := if (sym == sFUNC) then (if inW t [[110, 117, 109, 98, 101, 114], [114, 97, 110, 107], [100, 101, 110, 115, 101]] then (some [t]) else if (t == [116, 105, 108, 101]) then (some [[116, 105, 108, 101], [40], sNUM, [41]]) else if (t == [108, 97, 103]) then (some [t, [40], sCOL, [44], sNUM, [41]]) else if (t == [108, 101, 97, 100]) then (some [t, [40], sCOL, [44], sNUM, [41]]) else if inW t [[99, 111, 117, 110, 116], [115, 117, 109], [109, 105, 110], [109, 97, 120], [102, 105, 114, 115, 116], [108, 97, 115, 116]] then (some [t, [40], sCOL, [44], sFRAME, [41]]) else some [[116, 105, 108, 101]]) else if (sym == sFRAME) then (if (t == [97, 108, 108]) then (some [t]) else if (t == [112, 101, 101, 114, 115]) then (some [t]) else if (t == [110, 101, 97, 114]) then (some [[110, 101, 97, 114], sNUM]) else some [sEDGE, [116, 111], sEDGE]) else if (sym == sEDGE) then (if inW t [[115, 116, 97, 114, 116], [101, 110, 100], [104, 101, 114, 101]] then (some [t]) else if numT t then (some [sNUM, sSIDE]) else some [[104, 101, 114, 101]]) else if (sym == sSIDE) then (if (t == [98, 97, 99, 107]) then (some [[98, 97, 99, 107]]) else some [[111, 110]]) else none
def becomesF (sym t : Bytes) : Option (List Bytes) := if (sym == sBY) then (if (t == [98, 121]) then (some [[98, 121], sCOL, sCOLS]) else some []) else if (sym == sCOLS) then (if (t == [44]) then (some [[44], sCOL, sCOLS]) else some []) else if (sym == sKEYS) then (if (t == [44]) then (some [[44], sCOL, sDESC, sKEYS]) else some []) else if (sym == sDESC) then (if (t == [100, 101, 115, 99]) then (some [[100, 101, 115, 99]]) else some []) else if (sym == sFUNCS) then (if (t == [44]) then (some [[44], sFUNC, sFUNCS]) else some []) else if (sym == sTOP) then (if (t == [116, 111, 112]) then (some [[116, 111, 112], sNUM, sFROM]) else some []) else if (sym == sFROM) then (if (t == [102, 114, 111, 109]) then (some [[102, 114, 111, 109], sNUM]) else some []) else partsF sym t
def colWs : List Bytes := [[112], [107], [118]]
def fitsF (sym t : Bytes) : Bool := if t == [] then false else if sym == sCOL then inW t [[112], [107], [118]] else if sym == sNUM then numT t else sym == t
end Pr
end Go.Proofs.YtcoofnhdbejnpaaDoor
/- Plain functions: package panesref's stack of symbols. -/
namespace Go.Proofs.YtcoofnhdbejnpaaDoor
namespace Pr
open Pq
def nulls : List Bytes := [sBY, sCOLS, sKEYS, sDESC, sFUNCS, sTOP, sFROM]
def rank (s : Bytes) : Nat := if nulls.contains s then 3 else if s == sFRAME then 2 else if s == sFUNC then 1 else if s == sEDGE then 1 else if s == sSIDE then 1 else 0
def cc (s : Bytes) : Nat := if nulls.contains s then 6 else if s == sFRAME then 6 else if s == sFUNC then 6 else if s == sEDGE then 4 else if s == sSIDE then 4 else 0
theorem cc_le (s : Bytes) : cc s ≤ 6 := by
  unfold cc
  repeat' split
  all_goals omega
theorem rank_le (s : Bytes) : rank s ≤ 3 := by
  unfold rank
  repeat' split
  all_goals omega
def BecOk (sym : Bytes) (m : List Bytes) : Prop := (m = [] ∧ rank sym = 3 ∧ cc sym = 6) ∨ ∃ x r, m = x :: r ∧ rank x < rank sym ∧ rank x ≠ 3 ∧ m.length + cc x ≤ 1 + cc sym
theorem becOk_cons {sym x : Bytes} {r : List Bytes} (h1 : rank x < rank sym) (h2 : rank x ≠ 3) (h3 : (x :: r).length + cc x ≤ 1 + cc sym) : BecOk sym (x :: r) := .inr ⟨x, r, rfl, h1, h2, h3⟩
theorem bec_BY (t : Bytes) : becomesF sBY t = if (t == [98, 121]) then (some [[98, 121], sCOL, sCOLS]) else some [] := rfl
theorem bec_COLS (t : Bytes) : becomesF sCOLS t = if (t == [44]) then (some [[44], sCOL, sCOLS]) else some [] := rfl
theorem bec_KEYS (t : Bytes) : becomesF sKEYS t = if (t == [44]) then (some [[44], sCOL, sDESC, sKEYS]) else some [] := rfl
theorem bec_DESC (t : Bytes) : becomesF sDESC t = if (t == [100, 101, 115, 99]) then (some [[100, 101, 115, 99]]) else some [] := rfl
theorem bec_FUNCS (t : Bytes) : becomesF sFUNCS t = if (t == [44]) then (some [[44], sFUNC, sFUNCS]) else some [] := rfl
theorem bec_TOP (t : Bytes) : becomesF sTOP t = if (t == [116, 111, 112]) then (some [[116, 111, 112], sNUM, sFROM]) else some [] := rfl
theorem bec_FROM (t : Bytes) : becomesF sFROM t = if (t == [102, 114, 111, 109]) then (some [[102, 114, 111, 109], sNUM]) else some [] := rfl
theorem bec_FUNC (t : Bytes) : becomesF sFUNC t = if inW t [[110, 117, 109, 98, 101, 114], [114, 97, 110, 107], [100, 101, 110, 115, 101]] then (some [t]) else if (t == [116, 105, 108, 101]) then (some [[116, 105, 108, 101], [40], sNUM, [41]]) else if (t == [108, 97, 103]) then (some [t, [40], sCOL, [44], sNUM, [41]]) else if (t == [108, 101, 97, 100]) then (some [t, [40], sCOL, [44], sNUM, [41]]) else if inW t [[99, 111, 117, 110, 116], [115, 117, 109], [109, 105, 110], [109, 97, 120], [102, 105, 114, 115, 116], [108, 97, 115, 116]] then (some [t, [40], sCOL, [44], sFRAME, [41]]) else some [[116, 105, 108, 101]] := rfl
theorem bec_FRAME (t : Bytes) : becomesF sFRAME t = if (t == [97, 108, 108]) then (some [t]) else if (t == [112, 101, 101, 114, 115]) then (some [t]) else if (t == [110, 101, 97, 114]) then (some [[110, 101, 97, 114], sNUM]) else some [sEDGE, [116, 111], sEDGE] := rfl
theorem bec_EDGE (t : Bytes) : becomesF sEDGE t = if inW t [[115, 116, 97, 114, 116], [101, 110, 100], [104, 101, 114, 101]] then (some [t]) else if numT t then (some [sNUM, sSIDE]) else some [[104, 101, 114, 101]] := rfl
theorem bec_SIDE (t : Bytes) : becomesF sSIDE t = if (t == [98, 97, 99, 107]) then (some [[98, 97, 99, 107]]) else some [[111, 110]] := rfl
theorem inW_mem {t : Bytes} {ws : List Bytes} (h : inW t ws = true) : t ∈ ws := List.contains_iff_mem.1 h
def allS : List Bytes := [sBY, sCOLS, sKEYS, sDESC, sFUNCS, sTOP, sFROM, sFUNC, sFRAME, sEDGE, sSIDE]
theorem bec_none {sym : Bytes} (h : sym ∉ allS) (t : Bytes) : becomesF sym t = none := by
  simp only [allS, List.mem_cons, List.not_mem_nil, or_false, not_or] at h
  obtain ⟨h0, h1, h2, h3, h4, h5, h6, h7, h8, h9, h10⟩ := h
  have e : ∀ a : Bytes, sym ≠ a → (sym == a) = false := fun a ha => by simpa using ha
  unfold becomesF partsF
  rw [e _ h0, e _ h1, e _ h2, e _ h3, e _ h4, e _ h5, e _ h6, e _ h7, e _ h8, e _ h9, e _ h10]
  rfl
theorem bec_ok {sym t : Bytes} {m : List Bytes} (h : becomesF sym t = some m) : BecOk sym m := by
  by_cases hall : sym ∈ allS
  · simp only [allS, List.mem_cons, List.not_mem_nil, or_false] at hall
    rcases hall with rfl | rfl | rfl | rfl | rfl | rfl | rfl | rfl | rfl | rfl | rfl
    · rw [bec_BY] at h
      cases c1 : (t == [98, 121])
      · rw [c1] at h
        cases h
        exact .inl ⟨rfl, by decide, by decide⟩
      · rw [c1] at h
        cases h
        exact becOk_cons (by decide) (by decide) (by decide)
    · rw [bec_COLS] at h
      cases c2 : (t == [44])
      · rw [c2] at h
        cases h
        exact .inl ⟨rfl, by decide, by decide⟩
      · rw [c2] at h
        cases h
        exact becOk_cons (by decide) (by decide) (by decide)
    · rw [bec_KEYS] at h
      cases c3 : (t == [44])
      · rw [c3] at h
        cases h
        exact .inl ⟨rfl, by decide, by decide⟩
      · rw [c3] at h
        cases h
        exact becOk_cons (by decide) (by decide) (by decide)
    · rw [bec_DESC] at h
      cases c4 : (t == [100, 101, 115, 99])
      · rw [c4] at h
        cases h
        exact .inl ⟨rfl, by decide, by decide⟩
      · rw [c4] at h
        cases h
        exact becOk_cons (by decide) (by decide) (by decide)
    · rw [bec_FUNCS] at h
      cases c5 : (t == [44])
      · rw [c5] at h
        cases h
        exact .inl ⟨rfl, by decide, by decide⟩
      · rw [c5] at h
        cases h
        exact becOk_cons (by decide) (by decide) (by decide)
    · rw [bec_TOP] at h
      cases c6 : (t == [116, 111, 112])
      · rw [c6] at h
        cases h
        exact .inl ⟨rfl, by decide, by decide⟩
      · rw [c6] at h
        cases h
        exact becOk_cons (by decide) (by decide) (by decide)
    · rw [bec_FROM] at h
      cases c7 : (t == [102, 114, 111, 109])
      · rw [c7] at h
        cases h
        exact .inl ⟨rfl, by decide, by decide⟩
      · rw [c7] at h
        cases h
        exact becOk_cons (by decide) (by decide) (by decide)
    · rw [bec_FUNC] at h
      cases c8 : inW t [[110, 117, 109, 98, 101, 114], [114, 97, 110, 107], [100, 101, 110, 115, 101]]
      · rw [c8] at h
        cases c9 : (t == [116, 105, 108, 101])
        · rw [c9] at h
          cases c10 : (t == [108, 97, 103])
          · rw [c10] at h
            cases c11 : (t == [108, 101, 97, 100])
            · rw [c11] at h
              cases c12 : inW t [[99, 111, 117, 110, 116], [115, 117, 109], [109, 105, 110], [109, 97, 120], [102, 105, 114, 115, 116], [108, 97, 115, 116]]
              · rw [c12] at h
                cases h
                exact becOk_cons (by decide) (by decide) (by decide)
              · rw [c12] at h
                cases h
                have hm := inW_mem c12
                simp only [List.mem_cons, List.not_mem_nil, or_false] at hm
                rcases hm with rfl | rfl | rfl | rfl | rfl | rfl <;> exact becOk_cons (by decide) (by decide) (by decide)
            · rw [c11] at h
              cases h
              cases eq_of_beq c11
              exact becOk_cons (by decide) (by decide) (by decide)
          · rw [c10] at h
            cases h
            cases eq_of_beq c10
            exact becOk_cons (by decide) (by decide) (by decide)
        · rw [c9] at h
          cases h
          exact becOk_cons (by decide) (by decide) (by decide)
      · rw [c8] at h
        cases h
        have hm := inW_mem c8
        simp only [List.mem_cons, List.not_mem_nil, or_false] at hm
        rcases hm with rfl | rfl | rfl <;> exact becOk_cons (by decide) (by decide) (by decide)
    · rw [bec_FRAME] at h
      cases c13 : (t == [97, 108, 108])
      · rw [c13] at h
        cases c14 : (t == [112, 101, 101, 114, 115])
        · rw [c14] at h
          cases c15 : (t == [110, 101, 97, 114])
          · rw [c15] at h
            cases h
            exact becOk_cons (by decide) (by decide) (by decide)
          · rw [c15] at h
            cases h
            exact becOk_cons (by decide) (by decide) (by decide)
        · rw [c14] at h
          cases h
          cases eq_of_beq c14
          exact becOk_cons (by decide) (by decide) (by decide)
      · rw [c13] at h
        cases h
        cases eq_of_beq c13
        exact becOk_cons (by decide) (by decide) (by decide)
    · rw [bec_EDGE] at h
      cases c16 : inW t [[115, 116, 97, 114, 116], [101, 110, 100], [104, 101, 114, 101]]
      · rw [c16] at h
        cases c17 : numT t
        · rw [c17] at h
          cases h
          exact becOk_cons (by decide) (by decide) (by decide)
        · rw [c17] at h
          cases h
          exact becOk_cons (by decide) (by decide) (by decide)
      · rw [c16] at h
        cases h
        have hm := inW_mem c16
        simp only [List.mem_cons, List.not_mem_nil, or_false] at hm
        rcases hm with rfl | rfl | rfl <;> exact becOk_cons (by decide) (by decide) (by decide)
    · rw [bec_SIDE] at h
      cases c18 : (t == [98, 97, 99, 107])
      · rw [c18] at h
        cases h
        exact becOk_cons (by decide) (by decide) (by decide)
      · rw [c18] at h
        cases h
        exact becOk_cons (by decide) (by decide) (by decide)
  · rw [bec_none hall] at h; cases h
/-- how much the head may still unfold -/
def sec : List Bytes → Nat | [] => 0 | s :: r => if rank s = 3 then 3 + r.length else rank s
def grow : List Bytes → Nat | [] => 0 | s :: _ => cc s
theorem sec_lt {sym t : Bytes} {m r : List Bytes} (h : becomesF sym t = some m) : sec (m ++ r) < sec (sym :: r) := by
  rcases bec_ok h with ⟨rfl, h3, _⟩ | ⟨x, r', rfl, h1, h2, _⟩
  · simp only [List.nil_append]
    show _ < if rank sym = 3 then 3 + r.length else rank sym
    rw [if_pos h3]
    cases r with
    | nil => simp [sec]
    | cons a b =>
      have := rank_le a
      simp only [sec, List.length_cons]; split <;> omega
  · show (if rank x = 3 then _ else rank x) < if rank sym = 3 then 3 + r.length else rank sym
    rw [if_neg h2]; split <;> omega
theorem grow_le {sym t : Bytes} {m r : List Bytes} (h : becomesF sym t = some m) : (m ++ r).length + grow (m ++ r) ≤ (sym :: r).length + grow (sym :: r) := by
  rcases bec_ok h with ⟨rfl, h3, h6⟩ | ⟨x, r', rfl, h1, h2, h6⟩
  · simp only [List.nil_append, List.length_cons]
    show _ ≤ _ + cc sym
    rw [h6]
    cases r with
    | nil => simp [grow]
    | cons a b => have := cc_le a; simp only [grow, List.length_cons]; omega
  · simp only [List.length_append, List.length_cons] at h6 ⊢
    show _ + cc x ≤ _ + cc sym
    omega
theorem sec_le (ws : List Bytes) : sec ws ≤ 3 + ws.length := by
  cases ws with
  | nil => simp [sec]
  | cons a b => have := rank_le a; simp only [sec, List.length_cons]; split <;> omega
theorem grow_six (ws : List Bytes) : grow ws ≤ 6 := by cases ws with | nil => simp [grow] | cons a b => exact cc_le a
/-- the token at hand: empty, behind the last -/
def tAt (toks : List Tok) (i : Nat) : Bytes := match toks[i]? with | some x => x.text | none => []
def pAt (toks : List Tok) (len i : Nat) : Nat := match toks[i]? with | some x => x.at' | none => len
theorem fits_lt {toks : List Tok} {sym : Bytes} {i : Nat} (h : fitsF sym (tAt toks i) = true) : i < toks.length := by
  rcases Nat.lt_or_ge i toks.length with hl | hl
  · exact hl
  · unfold tAt at h; rw [List.getElem?_eq_none hl] at h; simp [fitsF] at h
/-- the head unfolded, with the token t at hand, till it is a token, COL or NUM; in so many steps at most -/
def expand (t : Bytes) : Nat → List Bytes → List Bytes
  | 0, ws => ws
  | _ + 1, [] => []
  | f + 1, sym :: r => match becomesF sym t with | some m => expand t f (m ++ r) | none => sym :: r
theorem expand_same (t : Bytes) : ∀ (f g : Nat) (ws : List Bytes), sec ws ≤ f → sec ws ≤ g → expand t f ws = expand t g ws
  | 0, 0, _, _, _ => rfl
  | 0, g + 1, [], _, _ => rfl
  | f + 1, 0, [], _, _ => rfl
  | f + 1, g + 1, [], _, _ => rfl
  | 0, g + 1, sym :: r, h, _ => by
    have hn : becomesF sym t = none := by
      cases hb : becomesF sym t with
      | none => rfl
      | some m => have := sec_lt (r := r) hb; omega
    simp only [expand, hn]
  | f + 1, 0, sym :: r, _, h => by
    have hn : becomesF sym t = none := by
      cases hb : becomesF sym t with
      | none => rfl
      | some m => have := sec_lt (r := r) hb; omega
    simp only [expand, hn]
  | f + 1, g + 1, sym :: r, h1, h2 => by
    cases hb : becomesF sym t with
    | none => simp only [expand, hb]
    | some m =>
      have h3 := sec_lt (r := r) hb
      simp only [expand, hb]
      exact expand_same t f g (m ++ r) (by omega) (by omega)
/-- the symbols that must come, from the token i on, of which so many are left: has it failed, and where it stands -/
def runF (toks : List Tok) : Nat → List Bytes → Nat → Bool × Nat
  | 0, ws, i => match expand (tAt toks i) (sec ws) ws with | [] => (false, i) | _ :: _ => (true, i)
  | n + 1, ws, i => match expand (tAt toks i) (sec ws) ws with | [] => (false, i) | sym :: r => if fitsF sym (tAt toks i) = true then runF toks n r (i + 1) else (true, i)
/-- the symbols that must come, from the token i on: has it failed, and where it stands -/
def run (toks : List Tok) (ws : List Bytes) (i : Nat) : Bool × Nat := runF toks (toks.length - i) ws i
theorem runF_congr (toks : List Tok) (n : Nat) {ws ws' : List Bytes} {i : Nat} (h : expand (tAt toks i) (sec ws) ws = expand (tAt toks i) (sec ws') ws') : runF toks n ws i = runF toks n ws' i := by
  cases n with
  | zero => rw [runF, runF, h]
  | succ n => rw [runF, runF, h]
theorem run_nil (toks : List Tok) (i : Nat) : run toks [] i = (false, i) := by
  unfold run
  cases toks.length - i with
  | zero => rfl
  | succ n => rfl
theorem run_some {toks : List Tok} {sym : Bytes} {r m : List Bytes} {i : Nat} (h : becomesF sym (tAt toks i) = some m) : run toks (sym :: r) i = run toks (m ++ r) i := by
  have h3 := sec_lt (r := r) h
  refine runF_congr toks _ ?_
  rw [show sec (sym :: r) = (sec (sym :: r) - 1) + 1 by omega]
  simp only [expand, h]
  exact expand_same _ _ _ _ (by omega) (Nat.le_refl _)
theorem expand_none {sym t : Bytes} {r : List Bytes} (h : becomesF sym t = none) : ∀ f, expand t f (sym :: r) = sym :: r
  | 0 => rfl
  | _ + 1 => by simp only [expand, h]
theorem run_fit {toks : List Tok} {sym : Bytes} {r : List Bytes} {i : Nat} (h : becomesF sym (tAt toks i) = none) (h2 : fitsF sym (tAt toks i) = true) : run toks (sym :: r) i = run toks r (i + 1) := by
  have hl := fits_lt h2
  unfold run
  rw [show toks.length - i = (toks.length - (i + 1)) + 1 by omega, runF, expand_none h]
  simp only [h2, if_true]
theorem run_bad {toks : List Tok} {sym : Bytes} {r : List Bytes} {i : Nat} (h : becomesF sym (tAt toks i) = none) (h2 : fitsF sym (tAt toks i) = false) : run toks (sym :: r) i = (true, i) := by
  unfold run
  cases toks.length - i with
  | zero => rw [runF, expand_none h]
  | succ n => rw [runF, expand_none h]; simp only [h2, Bool.false_eq_true, if_false]
def start : List Bytes := [sBY, [111, 114, 100, 101, 114], sCOL, sDESC, sKEYS, [115, 104, 111, 119], sFUNC, sFUNCS, sTOP]
def bad (toks : List Tok) : Bool := (run toks start 0).1 || decide ((run toks start 0).2 < toks.length)
end Pr
end Go.Proofs.YtcoofnhdbejnpaaDoor
/- Plain functions: the stack of symbols against the reading by descent: they fail at the same place. -/
namespace Go.Proofs.YtcoofnhdbejnpaaDoor
namespace Pr
open Pq
/-- a token says by its first byte whether it is a number -/
def NumToks (toks : List Tok) : Prop := ∀ t ∈ toks, t.num = numT t.text
theorem takes_eq {toks : List Tok} {t : Bytes} {s : PS} (ht : t ≠ []) : takes toks t s = (!s.failed && (tAt toks s.next == t)) := by
  unfold takes tAt
  cases toks[s.next]? with
  | none =>
    have : (([] : Bytes) == t) = false := by simpa using fun h => ht h
    simp [this]
  | some x => rfl
theorem isNum_eq {toks : List Tok} (h : NumToks toks) (s : PS) : isNum toks s = (!s.failed && numT (tAt toks s.next)) := by
  unfold isNum tAt
  cases hx : toks[s.next]? with
  | none => simp [numT]
  | some x => simp only []; rw [h x (List.mem_of_getElem? hx)]
theorem takes_failed {toks : List Tok} {t : Bytes} {s : PS} (h : s.failed = true) : takes toks t s = false := by simp [takes, h]
theorem isNum_failed {toks : List Tok} {s : PS} (h : s.failed = true) : isNum toks s = false := by simp [isNum, h]
/-- what may still come, from a state on -/
def cont (toks : List Tok) (s : PS) (ws : List Bytes) : Bool × Nat := if s.failed then (true, s.next) else run toks ws s.next
theorem cont_failed {toks : List Tok} {s : PS} (h : s.failed = true) (ws : List Bytes) : cont toks s ws = (true, s.next) := by simp [cont, h]
theorem cont_run {toks : List Tok} {s : PS} (h : s.failed = false) (ws : List Bytes) : cont toks s ws = run toks ws s.next := by simp [cont, h]
theorem cont_step {toks : List Tok} {s : PS} (h : s.failed = false) (ws : List Bytes) : run toks ws (s.next + 1) = cont toks s.step ws := (cont_run (s := s.step) h ws).symm
theorem cont_congr {toks : List Tok} {s s' : PS} (h1 : s'.failed = s.failed) (h2 : s'.next = s.next) (ws : List Bytes) : cont toks s' ws = cont toks s ws := by simp [cont, h1, h2]
def Sim (toks : List Tok) (ws : List Bytes) (f : PS → PS) : Prop := ∀ s rest, cont toks s (ws ++ rest) = cont toks (f s) rest
theorem Sim.comp {toks : List Tok} {a b : List Bytes} {f g : PS → PS} (h1 : Sim toks a f) (h2 : Sim toks b g) : Sim toks (a ++ b) (fun s => g (f s)) := by
  intro s rest; rw [List.append_assoc, h1, h2]
theorem Sim.cons {toks : List Tok} {a : Bytes} {b : List Bytes} {f g : PS → PS} (h1 : Sim toks [a] f) (h2 : Sim toks b g) : Sim toks (a :: b) (fun s => g (f s)) := h1.comp h2
theorem Sim.congr {toks : List Tok} {a : List Bytes} {f g : PS → PS} (h1 : Sim toks a f) (h : ∀ s, (g s).failed = (f s).failed ∧ (g s).next = (f s).next) : Sim toks a g := by
  intro s rest; rw [h1, cont_congr (h s).1 (h s).2]
/-- a state that has failed stays as it is -/
def Stays (f : PS → PS) : Prop := ∀ s, s.failed = true → (f s).failed = true ∧ (f s).next = s.next
theorem Sim.mk' {toks : List Tok} {ws : List Bytes} {f : PS → PS} (h0 : Stays f) (h : ∀ s rest, s.failed = false → run toks (ws ++ rest) s.next = cont toks (f s) rest) : Sim toks ws f := by
  intro s rest
  cases hf : s.failed
  · rw [cont_run hf]; exact h s rest hf
  · rw [cont_failed hf, cont_failed (h0 s hf).1, (h0 s hf).2]
theorem Stays.comp {f g : PS → PS} (h1 : Stays f) (h2 : Stays g) : Stays (fun s => g (f s)) := fun s hs => ⟨(h2 _ (h1 s hs).1).1, (h2 _ (h1 s hs).1).2.trans (h1 s hs).2⟩
theorem stays_want (toks : List Tok) (t : Bytes) : Stays (wantS toks t) := fun s hs => by simp [wantS, takes_failed hs, PS.fail]
theorem stays_take (toks : List Tok) (t : Bytes) : Stays (takeS toks t) := fun s hs => by simp [takeS, takes_failed hs, hs]
theorem stays_num (toks : List Tok) : Stays (numS toks) := fun s hs => by simp [numS, isNum_failed hs, PS.fail]
theorem firstTake_failed {toks : List Tok} {txt : Nat → Bytes} {n : Nat} {s : PS} (h : s.failed = true) : firstTake toks txt n s = none := firstTake_none (fun _ _ => takes_failed h)
theorem stays_oneOf (toks : List Tok) (txt : Nat → Bytes) (n : Nat) : Stays (oneOfS toks txt n) := fun s hs => by simp [oneOfS, firstTake_failed hs, PS.fail]
theorem stays_edge (toks : List Tok) : Stays (fun s => (edgeR toks s).2) := fun s hs => by
  have h1 := stays_num toks s hs
  have h2 := stays_want toks wOn _ h1.1
  simp only [edgeR, takes_failed hs, takes_failed h1.1, Bool.false_eq_true, if_false]
  exact ⟨h2.1, h2.2.trans h1.2⟩
theorem stays_frame (toks : List Tok) : Stays (fun s => (frameR toks s).2) := fun s hs => by
  have h := (((stays_edge toks).comp (stays_want toks wTo)).comp (stays_edge toks)) s hs
  simp only [frameR, takes_failed hs, Bool.false_eq_true, if_false]
  exact h
theorem stays_func (toks : List Tok) (len : Nat) : Stays (fun s => (funcR toks len s).2) := fun s hs => by
  have h := stays_oneOf toks kindTxt 12 s hs
  have e : oneOfV toks kindTxt 12 s = 0 := by simp [oneOfV, firstTake_failed hs]
  simp only [funcR, e]
  exact h
theorem byStep_nf (toks : List Tok) (len : Nat) (s : PS) : (byStep toks len s).failed = (oneOfS toks colTxt 3 s).failed ∧ (byStep toks len s).next = (oneOfS toks colTxt 3 s).next := by
  simp only [byStep, byMark, twiceS]; repeat' split
  all_goals exact ⟨rfl, rfl⟩
theorem keyStep_nf (toks : List Tok) (len : Nat) (s : PS) : (keyStep toks len s).failed = (keySt toks s).failed ∧ (keyStep toks len s).next = (keySt toks s).next := by
  simp only [keyStep, keyMark, twiceS]; repeat' split
  all_goals exact ⟨rfl, rfl⟩
theorem funMark_nf (toks : List Tok) (len : Nat) (s : PS) : (funMark toks len s).failed = s.failed ∧ (funMark toks len s).next = s.next := by
  unfold funMark; split <;> exact ⟨rfl, rfl⟩
theorem stays_byStep (toks : List Tok) (len : Nat) : Stays (byStep toks len) := fun s hs => by
  have h := stays_oneOf toks colTxt 3 s hs
  have e := byStep_nf toks len s
  exact ⟨e.1.trans h.1, e.2.trans h.2⟩
theorem stays_keyStep (toks : List Tok) (len : Nat) : Stays (keyStep toks len) := fun s hs => by
  have h := ((stays_oneOf toks colTxt 3).comp (stays_take toks wDesc)) s hs
  have e := keyStep_nf toks len s
  exact ⟨e.1.trans h.1, e.2.trans h.2⟩
theorem stays_funStep (toks : List Tok) (len : Nat) : Stays (funStep toks len) := fun s hs => by
  have e := funMark_nf toks len s
  have h := stays_func toks len (funMark toks len s) (e.1.trans hs)
  exact ⟨h.1, h.2.trans e.2⟩
theorem stays_byR (toks : List Tok) (len : Nat) : Stays (byR toks len) := fun s hs => by
  have h := stays_byStep toks len s hs
  rw [byR_eq, dif_neg (by simp [takes_failed h.1])]; exact h
theorem stays_keyR (toks : List Tok) (len : Nat) : Stays (keyR toks len) := fun s hs => by
  have h := stays_keyStep toks len s hs
  rw [keyR_eq, dif_neg (by simp [takes_failed h.1])]; exact h
theorem stays_funR (toks : List Tok) (len : Nat) : Stays (funR toks len) := fun s hs => by
  have h := stays_funStep toks len s hs
  rw [funR_eq, dif_neg (by simp [takes_failed h.1])]; exact h
/-! one symbol -/
theorem sim_word (toks : List Tok) {t : Bytes} (h1 : t ∉ allS) (h2 : t ≠ sCOL) (h3 : t ≠ sNUM) (h4 : t ≠ []) : Sim toks [t] (wantS toks t) := by
  refine Sim.mk' (stays_want toks t) fun s rest hf => ?_
  show run toks (t :: rest) s.next = _
  by_cases e : tAt toks s.next = t
  · have ht : takes toks t s = true := by rw [takes_eq h4]; simp [hf, e]
    have hfit : fitsF t (tAt toks s.next) = true := by rw [e]; simp [fitsF, h2, h3, h4]
    rw [run_fit (bec_none h1 _) hfit]
    simp only [wantS, ht, if_true]
    exact cont_step hf _
  · have ht : takes toks t s = false := by rw [takes_eq h4]; simp [e]
    have hfit : fitsF t (tAt toks s.next) = false := by
      have e' : ¬ t = tAt toks s.next := fun h => e h.symm
      simp [fitsF, h2, h3, e']
    rw [run_bad (bec_none h1 _) hfit]
    simp [wantS, ht, cont, PS.fail]
theorem sim_num {toks : List Tok} (hT : NumToks toks) : Sim toks [sNUM] (numS toks) := by
  refine Sim.mk' (stays_num toks) fun s rest hf => ?_
  show run toks (sNUM :: rest) s.next = _
  have hb : becomesF sNUM (tAt toks s.next) = none := bec_none (by decide) _
  have hfe : fitsF sNUM (tAt toks s.next) = numT (tAt toks s.next) := by
    unfold fitsF
    cases tAt toks s.next with
    | nil => rfl
    | cons a r => rfl
  cases e : numT (tAt toks s.next)
  · have hn : isNum toks s = false := by rw [isNum_eq hT]; simp [e]
    rw [run_bad hb (hfe.trans e)]; simp [numS, hn, cont, PS.fail]
  · have hn : isNum toks s = true := by rw [isNum_eq hT]; simp [e, hf]
    rw [run_fit hb (hfe.trans e)]; simp only [numS, hn, if_true]; exact cont_step hf _
theorem oneOf_hit {toks : List Tok} {txt : Nat → Bytes} {n k : Nat} {s : PS} (hf : s.failed = false) (hk : k < n) (hd : ∀ j, j < k → txt j ≠ txt k ∧ txt j ≠ []) (hne : txt k ≠ []) (h : tAt toks s.next = txt k) : firstTake toks txt n s = some k :=
  firstTake_some hk (fun j hj => by rw [takes_eq (hd j hj).2, h]; simp; exact fun _ e => (hd j hj).1 e.symm) (by rw [takes_eq hne, h]; simp [hf])
theorem oneOf_miss {toks : List Tok} {txt : Nat → Bytes} {n : Nat} {s : PS} (hne : ∀ j, txt j ≠ []) (h : ∀ j, j < n → tAt toks s.next ≠ txt j) : firstTake toks txt n s = none :=
  firstTake_none (fun j hj => by rw [takes_eq (hne j)]; simp [h j hj])
theorem colTxt_ne (j : Nat) : colTxt j ≠ [] := by unfold colTxt; split <;> simp
theorem kindTxt_ne (j : Nat) : kindTxt j ≠ [] := by unfold kindTxt; split <;> simp
theorem inW_of {t : Bytes} {ws : List Bytes} (h : t ∈ ws) : inW t ws = true := List.contains_iff_mem.2 h
theorem inW_no {t : Bytes} {ws : List Bytes} (h : t ∉ ws) : inW t ws = false := by
  rw [Bool.eq_false_iff]; exact fun e => h (inW_mem e)
theorem sim_col (toks : List Tok) : Sim toks [sCOL] (oneOfS toks colTxt 3) := by
  refine Sim.mk' (stays_oneOf toks colTxt 3) fun s rest hf => ?_
  show run toks (sCOL :: rest) s.next = _
  have hb : becomesF sCOL (tAt toks s.next) = none := bec_none (by decide) _
  have hit : ∀ k, k < 3 → (∀ j, j < k → colTxt j ≠ colTxt k) → tAt toks s.next = colTxt k → run toks (sCOL :: rest) s.next = cont toks (oneOfS toks colTxt 3 s) rest := by
    intro k hk hd e
    have h1 := oneOf_hit (n := 3) hf hk (fun j hj => ⟨hd j hj, colTxt_ne j⟩) (colTxt_ne k) e
    have hfit : fitsF sCOL (tAt toks s.next) = true := by
      rw [e]
      match k, hk with
      | 0, _ => decide
      | 1, _ => decide
      | 2, _ => decide
    rw [run_fit hb hfit]; simp only [oneOfS, h1]; exact cont_step hf _
  by_cases h0 : tAt toks s.next = colTxt 0
  · exact hit 0 (by omega) (by omega) h0
  by_cases h1 : tAt toks s.next = colTxt 1
  · exact hit 1 (by omega) (by decide) h1
  by_cases h2 : tAt toks s.next = colTxt 2
  · exact hit 2 (by omega) (by decide) h2
  have hm : firstTake toks colTxt 3 s = none := oneOf_miss colTxt_ne (fun j hj => by
    match j, hj with
    | 0, _ => exact h0
    | 1, _ => exact h1
    | 2, _ => exact h2)
  have hfit : fitsF sCOL (tAt toks s.next) = false := by
    unfold fitsF
    rw [inW_no (by
      simp only [List.mem_cons, List.not_mem_nil, or_false, not_or]
      exact ⟨h0, h1, h2⟩)]
    simp
  rw [run_bad hb hfit]; simp [oneOfS, hm, cont, PS.fail]
theorem run_word {toks : List Tok} {t : Bytes} {i : Nat} {rest : List Bytes} (h1 : t ∉ allS) (h2 : t ≠ sCOL) (h3 : t ≠ sNUM) (h4 : t ≠ []) (e : tAt toks i = t) : run toks (t :: rest) i = run toks rest (i + 1) :=
  run_fit (bec_none h1 _) (by rw [e]; simp [fitsF, h2, h3, h4])
theorem run_noword {toks : List Tok} {t : Bytes} {i : Nat} {rest : List Bytes} (h1 : t ∉ allS) (h2 : t ≠ sCOL) (h3 : t ≠ sNUM) (e : tAt toks i ≠ t) : run toks (t :: rest) i = (true, i) :=
  run_bad (bec_none h1 _) (by have e' : ¬ t = tAt toks i := fun h => e h.symm; simp [fitsF, h2, h3, e'])
theorem sim_desc (toks : List Tok) : Sim toks [sDESC] (takeS toks wDesc) := by
  refine Sim.mk' (stays_take toks wDesc) fun s rest hf => ?_
  show run toks (sDESC :: rest) s.next = _
  by_cases e : tAt toks s.next = wDesc
  · have hb : becomesF sDESC (tAt toks s.next) = some [wDesc] := by rw [e]; decide
    have ht : takes toks wDesc s = true := by rw [takes_eq (by decide)]; simp [hf, e]
    rw [run_some hb, List.singleton_append, run_word (by decide) (by decide) (by decide) (by decide) e]
    simp only [takeS, ht, if_true]; exact cont_step hf _
  · have hb : becomesF sDESC (tAt toks s.next) = some [] := by rw [bec_DESC, if_neg (by intro q; exact e (eq_of_beq q))]
    have ht : takes toks wDesc s = false := by rw [takes_eq (by decide)]; simp [e]
    rw [run_some hb, List.nil_append]
    simp only [takeS, ht, Bool.false_eq_true, if_false]; exact (cont_run hf _).symm
theorem sim_edge {toks : List Tok} (hT : NumToks toks) : Sim toks [sEDGE] (fun s => (edgeR toks s).2) := by
  refine Sim.mk' (stays_edge toks) fun s rest hf => ?_
  show run toks (sEDGE :: rest) s.next = _
  by_cases h0 : tAt toks s.next = wStart
  · have hb : becomesF sEDGE (tAt toks s.next) = some [wStart] := by rw [h0]; decide
    have ht : takes toks wStart s = true := by rw [takes_eq (by decide)]; simp [hf, h0]
    rw [run_some hb, List.singleton_append, run_word (by decide) (by decide) (by decide) (by decide) h0]
    simp only [edgeR, ht, if_true]; exact cont_step hf _
  have t0 : takes toks wStart s = false := by rw [takes_eq (by decide)]; simp [h0]
  by_cases h1 : tAt toks s.next = wEnd
  · have hb : becomesF sEDGE (tAt toks s.next) = some [wEnd] := by rw [h1]; decide
    have ht : takes toks wEnd s = true := by rw [takes_eq (by decide)]; simp [hf, h1]
    rw [run_some hb, List.singleton_append, run_word (by decide) (by decide) (by decide) (by decide) h1]
    simp only [edgeR, t0, ht, if_true, Bool.false_eq_true, if_false]; exact cont_step hf _
  have t1 : takes toks wEnd s = false := by rw [takes_eq (by decide)]; simp [h1]
  by_cases h2 : tAt toks s.next = wHere
  · have hb : becomesF sEDGE (tAt toks s.next) = some [wHere] := by rw [h2]; decide
    have ht : takes toks wHere s = true := by rw [takes_eq (by decide)]; simp [hf, h2]
    rw [run_some hb, List.singleton_append, run_word (by decide) (by decide) (by decide) (by decide) h2]
    simp only [edgeR, t0, t1, ht, if_true, Bool.false_eq_true, if_false]; exact cont_step hf _
  have t2 : takes toks wHere s = false := by rw [takes_eq (by decide)]; simp [h2]
  have hin : inW (tAt toks s.next) [[115, 116, 97, 114, 116], [101, 110, 100], [104, 101, 114, 101]] = false := inW_no (by
    simp only [List.mem_cons, List.not_mem_nil, or_false, not_or]; exact ⟨h0, h1, h2⟩)
  cases hn : numT (tAt toks s.next)
  · have hb : becomesF sEDGE (tAt toks s.next) = some [wHere] := by rw [bec_EDGE, hin, hn]; rfl
    have hi : isNum toks s = false := by rw [isNum_eq hT]; simp [hn]
    have e1 : numS toks s = s.fail := by simp [numS, hi]
    rw [run_some hb, List.singleton_append, run_noword (by decide) (by decide) (by decide) h2]
    have e2 := stays_edge toks
    simp only [edgeR, t0, t1, t2, Bool.false_eq_true, if_false, e1, takes_failed (show s.fail.failed = true from rfl)]
    rw [cont_failed (stays_want toks wOn s.fail rfl).1, (stays_want toks wOn s.fail rfl).2]; rfl
  · have hb : becomesF sEDGE (tAt toks s.next) = some [sNUM, sSIDE] := by rw [bec_EDGE, hin, hn]; rfl
    have hi : isNum toks s = true := by rw [isNum_eq hT]; simp [hn, hf]
    have e1 : numS toks s = s.step := by simp [numS, hi]
    have hf1 : s.step.failed = false := hf
    have e3 := sim_num hT s (sSIDE :: rest)
    rw [cont_run hf, e1, cont_run hf1] at e3
    rw [run_some hb]
    show run toks (sNUM :: sSIDE :: rest) s.next = _
    rw [show (sNUM :: sSIDE :: rest) = [sNUM] ++ sSIDE :: rest from rfl, e3]
    simp only [edgeR, t0, t1, t2, Bool.false_eq_true, if_false, e1]
    by_cases h3 : tAt toks s.step.next = wBack
    · have hb2 : becomesF sSIDE (tAt toks s.step.next) = some [wBack] := by rw [h3]; decide
      have ht : takes toks wBack s.step = true := by rw [takes_eq (by decide)]; simp [hf1, h3]
      rw [run_some hb2, List.singleton_append, run_word (by decide) (by decide) (by decide) (by decide) h3]
      simp only [ht, if_true]; exact cont_step hf1 _
    · have hb2 : becomesF sSIDE (tAt toks s.step.next) = some [wOn] := by rw [bec_SIDE, if_neg (by intro q; exact h3 (eq_of_beq q))]; rfl
      have ht : takes toks wBack s.step = false := by rw [takes_eq (by decide)]; simp [h3]
      rw [run_some hb2]
      simp only [ht, Bool.false_eq_true, if_false]
      have e4 := sim_word toks (t := wOn) (by decide) (by decide) (by decide) (by decide) s.step rest
      rw [cont_run hf1] at e4
      exact e4
theorem sim_frame {toks : List Tok} (hT : NumToks toks) : Sim toks [sFRAME] (fun s => (frameR toks s).2) := by
  refine Sim.mk' (stays_frame toks) fun s rest hf => ?_
  show run toks (sFRAME :: rest) s.next = _
  by_cases h0 : tAt toks s.next = wAll
  · have hb : becomesF sFRAME (tAt toks s.next) = some [wAll] := by rw [h0]; decide
    have ht : takes toks wAll s = true := by rw [takes_eq (by decide)]; simp [hf, h0]
    rw [run_some hb, List.singleton_append, run_word (by decide) (by decide) (by decide) (by decide) h0]
    simp only [frameR, ht, if_true]; exact cont_step hf _
  have t0 : takes toks wAll s = false := by rw [takes_eq (by decide)]; simp [h0]
  by_cases h1 : tAt toks s.next = wPeers
  · have hb : becomesF sFRAME (tAt toks s.next) = some [wPeers] := by rw [h1]; decide
    have ht : takes toks wPeers s = true := by rw [takes_eq (by decide)]; simp [hf, h1]
    rw [run_some hb, List.singleton_append, run_word (by decide) (by decide) (by decide) (by decide) h1]
    simp only [frameR, t0, ht, if_true, Bool.false_eq_true, if_false]; exact cont_step hf _
  have t1 : takes toks wPeers s = false := by rw [takes_eq (by decide)]; simp [h1]
  by_cases h2 : tAt toks s.next = wNear
  · have hb : becomesF sFRAME (tAt toks s.next) = some [wNear, sNUM] := by rw [h2]; decide
    have ht : takes toks wNear s = true := by rw [takes_eq (by decide)]; simp [hf, h2]
    rw [run_some hb, List.cons_append, run_word (by decide) (by decide) (by decide) (by decide) h2]
    simp only [frameR, t0, t1, ht, if_true, Bool.false_eq_true, if_false]
    have hf1 : s.step.failed = false := hf
    have e3 := sim_num hT s.step rest
    rw [cont_run hf1] at e3
    exact e3
  have t2 : takes toks wNear s = false := by rw [takes_eq (by decide)]; simp [h2]
  have hb : becomesF sFRAME (tAt toks s.next) = some [sEDGE, wTo, sEDGE] := by
    rw [bec_FRAME, if_neg (by intro q; exact h0 (eq_of_beq q)), if_neg (by intro q; exact h1 (eq_of_beq q)), if_neg (by intro q; exact h2 (eq_of_beq q))]; rfl
  rw [run_some hb]
  simp only [frameR, t0, t1, t2, Bool.false_eq_true, if_false]
  have e := ((sim_edge hT).cons ((sim_word toks (t := wTo) (by decide) (by decide) (by decide) (by decide)).cons (sim_edge hT))) s rest
  rw [cont_run hf] at e
  exact e
theorem tileS_nf (toks : List Tok) (len : Nat) (s : PS) : (tileS toks len s).failed = (numS toks s).failed ∧ (tileS toks len s).next = (numS toks s).next := by
  unfold tileS; split <;> exact ⟨rfl, rfl⟩
theorem sim_tile {toks : List Tok} (hT : NumToks toks) (len : Nat) : Sim toks [[40], sNUM, [41]] (fun s => (tileR toks len s).2) :=
  (sim_word toks (t := wOpen) (by decide) (by decide) (by decide) (by decide)).cons (((sim_num hT).congr (tileS_nf toks len)).cons (sim_word toks (t := wClose) (by decide) (by decide) (by decide) (by decide)))
theorem sim_colComma (toks : List Tok) : Sim toks [[40], sCOL, [44]] (colComma toks) :=
  (sim_word toks (t := wOpen) (by decide) (by decide) (by decide) (by decide)).cons ((sim_col toks).cons (sim_word toks (t := wComma) (by decide) (by decide) (by decide) (by decide)))
theorem sim_lag {toks : List Tok} (hT : NumToks toks) (k : Nat) : Sim toks [[40], sCOL, [44], sNUM, [41]] (fun s => (lagR toks k s).2) :=
  (sim_colComma toks).comp ((sim_num hT).cons (sim_word toks (t := wClose) (by decide) (by decide) (by decide) (by decide)))
theorem sim_over {toks : List Tok} (hT : NumToks toks) (k : Nat) : Sim toks [[40], sCOL, [44], sFRAME, [41]] (fun s => (overR toks k s).2) :=
  (sim_colComma toks).comp ((sim_frame hT).cons (sim_word toks (t := wClose) (by decide) (by decide) (by decide) (by decide)))
theorem func_hit {toks : List Tok} {len : Nat} {s : PS} {k : Nat} (hf : s.failed = false) (hk : k < 12) (hd : ∀ j, j < k → kindTxt j ≠ kindTxt k) (h : tAt toks s.next = kindTxt k) : funcR toks len s = if k < 3 then (⟨k, 0, 0, fr0⟩, s.step) else if k = 3 then tileR toks len s.step else if k < 6 then lagR toks k s.step else overR toks k s.step := by
  have h1 := oneOf_hit (n := 12) hf hk (fun j hj => ⟨hd j hj, kindTxt_ne j⟩) (kindTxt_ne k) h
  simp only [funcR, oneOfS, oneOfV, h1]
theorem sim_func {toks : List Tok} (hT : NumToks toks) (len : Nat) : Sim toks [sFUNC] (fun s => (funcR toks len s).2) := by
  refine Sim.mk' (stays_func toks len) fun s rest hf => ?_
  show run toks (sFUNC :: rest) s.next = _
  have hf1 : s.step.failed = false := hf
  have word : ∀ k, k < 3 → (∀ j, j < k → kindTxt j ≠ kindTxt k) → becomesF sFUNC (kindTxt k) = some [kindTxt k] → kindTxt k ∉ allS → kindTxt k ≠ sCOL → kindTxt k ≠ sNUM → tAt toks s.next = kindTxt k → run toks (sFUNC :: rest) s.next = cont toks (funcR toks len s).2 rest := by
    intro k hk hd hb h1 h2 h3 e
    rw [run_some (by rw [e]; exact hb), List.singleton_append, run_word h1 h2 h3 (kindTxt_ne k) e, func_hit hf (by omega) hd e, if_pos hk]
    exact cont_step hf _
  have lag : ∀ k, 3 < k → k < 6 → (∀ j, j < k → kindTxt j ≠ kindTxt k) → becomesF sFUNC (kindTxt k) = some (kindTxt k :: [[40], sCOL, [44], sNUM, [41]]) → kindTxt k ∉ allS → kindTxt k ≠ sCOL → kindTxt k ≠ sNUM → tAt toks s.next = kindTxt k → run toks (sFUNC :: rest) s.next = cont toks (funcR toks len s).2 rest := by
    intro k hk hk6 hd hb h1 h2 h3 e
    rw [run_some (by rw [e]; exact hb), List.cons_append, run_word h1 h2 h3 (kindTxt_ne k) e, func_hit hf (by omega) hd e, if_neg (by omega), if_neg (by omega), if_pos hk6]
    have e3 := sim_lag hT k s.step rest
    rw [cont_run hf1] at e3
    exact e3
  have over : ∀ k, 5 < k → k < 12 → (∀ j, j < k → kindTxt j ≠ kindTxt k) → becomesF sFUNC (kindTxt k) = some (kindTxt k :: [[40], sCOL, [44], sFRAME, [41]]) → kindTxt k ∉ allS → kindTxt k ≠ sCOL → kindTxt k ≠ sNUM → tAt toks s.next = kindTxt k → run toks (sFUNC :: rest) s.next = cont toks (funcR toks len s).2 rest := by
    intro k hk hk6 hd hb h1 h2 h3 e
    rw [run_some (by rw [e]; exact hb), List.cons_append, run_word h1 h2 h3 (kindTxt_ne k) e, func_hit hf (by omega) hd e, if_neg (by omega), if_neg (by omega), if_neg (by omega)]
    have e3 := sim_over hT k s.step rest
    rw [cont_run hf1] at e3
    exact e3
  by_cases h0 : tAt toks s.next = kindTxt 0
  · exact word 0 (by omega) (by omega) (by decide) (by decide) (by decide) (by decide) h0
  by_cases h1 : tAt toks s.next = kindTxt 1
  · exact word 1 (by omega) (by decide) (by decide) (by decide) (by decide) (by decide) h1
  by_cases h2 : tAt toks s.next = kindTxt 2
  · exact word 2 (by omega) (by decide) (by decide) (by decide) (by decide) (by decide) h2
  by_cases h3 : tAt toks s.next = kindTxt 3
  · have hb : becomesF sFUNC (kindTxt 3) = some (kindTxt 3 :: [[40], sNUM, [41]]) := by decide
    rw [run_some (by rw [h3]; exact hb), List.cons_append, run_word (by decide) (by decide) (by decide) (kindTxt_ne 3) h3, func_hit hf (by omega) (by decide) h3, if_neg (by omega), if_pos rfl]
    have e3 := sim_tile hT len s.step rest
    rw [cont_run hf1] at e3
    exact e3
  by_cases h4 : tAt toks s.next = kindTxt 4
  · exact lag 4 (by omega) (by omega) (by decide) (by decide) (by decide) (by decide) (by decide) h4
  by_cases h5 : tAt toks s.next = kindTxt 5
  · exact lag 5 (by omega) (by omega) (by decide) (by decide) (by decide) (by decide) (by decide) h5
  by_cases h6 : tAt toks s.next = kindTxt 6
  · exact over 6 (by omega) (by omega) (by decide) (by decide) (by decide) (by decide) (by decide) h6
  by_cases h7 : tAt toks s.next = kindTxt 7
  · exact over 7 (by omega) (by omega) (by decide) (by decide) (by decide) (by decide) (by decide) h7
  by_cases h8 : tAt toks s.next = kindTxt 8
  · exact over 8 (by omega) (by omega) (by decide) (by decide) (by decide) (by decide) (by decide) h8
  by_cases h9 : tAt toks s.next = kindTxt 9
  · exact over 9 (by omega) (by omega) (by decide) (by decide) (by decide) (by decide) (by decide) h9
  by_cases h10 : tAt toks s.next = kindTxt 10
  · exact over 10 (by omega) (by omega) (by decide) (by decide) (by decide) (by decide) (by decide) h10
  by_cases h11 : tAt toks s.next = kindTxt 11
  · exact over 11 (by omega) (by omega) (by decide) (by decide) (by decide) (by decide) (by decide) h11
  have hm : firstTake toks kindTxt 12 s = none := oneOf_miss kindTxt_ne (fun j hj => by
    match j, hj with
    | 0, _ => exact h0
    | 1, _ => exact h1
    | 2, _ => exact h2
    | 3, _ => exact h3
    | 4, _ => exact h4
    | 5, _ => exact h5
    | 6, _ => exact h6
    | 7, _ => exact h7
    | 8, _ => exact h8
    | 9, _ => exact h9
    | 10, _ => exact h10
    | 11, _ => exact h11)
  have hb : becomesF sFUNC (tAt toks s.next) = some [kindTxt 3] := by
    rw [bec_FUNC, inW_no (by simp only [List.mem_cons, List.not_mem_nil, or_false, not_or]; exact ⟨h0, h1, h2⟩), if_neg (by simp), if_neg (by intro q; exact h3 (eq_of_beq q)), if_neg (by intro q; exact h4 (eq_of_beq q)), if_neg (by intro q; exact h5 (eq_of_beq q)), inW_no (by simp only [List.mem_cons, List.not_mem_nil, or_false, not_or]; exact ⟨h6, h7, h8, h9, h10, h11⟩), if_neg (by simp)]; rfl
  rw [run_some hb, List.singleton_append, run_noword (by decide) (by decide) (by decide) h3]
  simp [funcR, oneOfS, oneOfV, hm, cont, PS.fail]
/-! lists -/
theorem sim_byStep (toks : List Tok) (len : Nat) : Sim toks [sCOL] (byStep toks len) := (sim_col toks).congr (byStep_nf toks len)
theorem sim_keyStep (toks : List Tok) (len : Nat) : Sim toks [sCOL, sDESC] (keyStep toks len) := ((sim_col toks).cons (sim_desc toks)).congr (keyStep_nf toks len)
theorem sim_funStep {toks : List Tok} (hT : NumToks toks) (len : Nat) : Sim toks [sFUNC] (funStep toks len) := by
  intro s rest
  have e := sim_func hT len (funMark toks len s) rest
  rw [cont_congr (funMark_nf toks len s).1 (funMark_nf toks len s).2] at e
  exact e
theorem opt_word {toks : List Tok} {s : PS} {sym w : Bytes} {m rest : List Bytes} (hw : w ∉ allS ∧ w ≠ sCOL ∧ w ≠ sNUM ∧ w ≠ []) (hc : ∀ t, becomesF sym t = if (t == w) then some (w :: m) else some []) :
    (takes toks w s = true → cont toks s (sym :: rest) = cont toks s.step (m ++ rest)) ∧ (takes toks w s = false → cont toks s (sym :: rest) = cont toks s rest) := by
  constructor
  · intro h
    rw [takes_eq hw.2.2.2] at h
    simp only [Bool.and_eq_true, Bool.not_eq_true', beq_iff_eq] at h
    have hb : becomesF sym (tAt toks s.next) = some (w :: m) := by rw [hc, if_pos (by simpa using h.2)]
    rw [cont_run h.1, run_some hb, List.cons_append, run_word hw.1 hw.2.1 hw.2.2.1 hw.2.2.2 h.2]
    exact cont_step h.1 _
  · intro h
    cases hf : s.failed
    · rw [takes_eq hw.2.2.2] at h
      simp [hf] at h
      have hb : becomesF sym (tAt toks s.next) = some [] := by rw [hc, if_neg (by simpa using h)]
      rw [cont_run hf, run_some hb, cont_run hf]; rfl
    · rw [cont_failed hf, cont_failed hf]
theorem comma_ok : wComma ∉ allS ∧ wComma ≠ sCOL ∧ wComma ≠ sNUM ∧ wComma ≠ [] := ⟨by decide, by decide, by decide, by decide⟩
theorem sim_byR (toks : List Tok) (len : Nat) : Sim toks [sCOL, sCOLS] (byR toks len) := by
  intro s rest
  induction s using byR_ind (toks := toks) (len := len) with
  | case1 s h ih =>
    rw [byR_eq, dif_pos h, ← ih, show [sCOL, sCOLS] ++ rest = [sCOL] ++ (sCOLS :: rest) from rfl, sim_byStep toks len, (opt_word comma_ok bec_COLS).1 h]; rfl
  | case2 s h =>
    rw [byR_eq, dif_neg h, show [sCOL, sCOLS] ++ rest = [sCOL] ++ (sCOLS :: rest) from rfl, sim_byStep toks len, (opt_word comma_ok bec_COLS).2 (by simpa using h)]
theorem sim_keyR (toks : List Tok) (len : Nat) : Sim toks [sCOL, sDESC, sKEYS] (keyR toks len) := by
  intro s rest
  induction s using keyR_ind (toks := toks) (len := len) with
  | case1 s h ih =>
    rw [keyR_eq, dif_pos h, ← ih, show [sCOL, sDESC, sKEYS] ++ rest = [sCOL, sDESC] ++ (sKEYS :: rest) from rfl, sim_keyStep toks len, (opt_word comma_ok bec_KEYS).1 h]; rfl
  | case2 s h =>
    rw [keyR_eq, dif_neg h, show [sCOL, sDESC, sKEYS] ++ rest = [sCOL, sDESC] ++ (sKEYS :: rest) from rfl, sim_keyStep toks len, (opt_word comma_ok bec_KEYS).2 (by simpa using h)]
theorem sim_funR {toks : List Tok} (hT : NumToks toks) (len : Nat) : Sim toks [sFUNC, sFUNCS] (funR toks len) := by
  intro s rest
  induction s using funR_ind (toks := toks) (len := len) with
  | case1 s h ih =>
    rw [funR_eq, dif_pos h, ← ih, show [sFUNC, sFUNCS] ++ rest = [sFUNC] ++ (sFUNCS :: rest) from rfl, sim_funStep hT len, (opt_word comma_ok bec_FUNCS).1 h]; rfl
  | case2 s h =>
    rw [funR_eq, dif_neg h, show [sFUNC, sFUNCS] ++ rest = [sFUNC] ++ (sFUNCS :: rest) from rfl, sim_funStep hT len, (opt_word comma_ok bec_FUNCS).2 (by simpa using h)]
theorem sim_q1 (toks : List Tok) (len : Nat) : Sim toks [sBY] (q1 toks len) := by
  intro s rest
  have e := opt_word (toks := toks) (s := s) (rest := rest) (sym := sBY) (w := wBy) (m := [sCOL, sCOLS]) ⟨by decide, by decide, by decide, by decide⟩ bec_BY
  unfold q1
  cases ht : takes toks wBy s
  · exact e.2 ht
  · show cont toks s (sBY :: rest) = cont toks (byR toks len s.step) rest
    rw [e.1 ht, sim_byR toks len]
theorem sim_top {toks : List Tok} (hT : NumToks toks) : Sim toks [sNUM, sFROM] (topS toks) := by
  intro s rest
  have e1 : cont toks s ([sNUM] ++ (sFROM :: rest)) = cont toks (top1 toks s) (sFROM :: rest) := by
    have e := sim_num hT { s with hasTop := true } (sFROM :: rest)
    exact e
  show cont toks s ([sNUM] ++ (sFROM :: rest)) = _
  rw [e1]
  have e := opt_word (toks := toks) (s := top1 toks s) (rest := rest) (sym := sFROM) (w := wFrom) (m := [sNUM]) ⟨by decide, by decide, by decide, by decide⟩ bec_FROM
  unfold topS
  cases ht : takes toks wFrom (top1 toks s)
  · exact e.2 ht
  · show _ = cont toks { numS toks (top1 toks s).step with frm := numV toks (top1 toks s).step } rest
    rw [e.1 ht, sim_num hT]; rfl
theorem sim_q4 {toks : List Tok} (hT : NumToks toks) (s : PS) (f : PS → PS) (rest : List Bytes) : cont toks (f s) (sTOP :: rest) = cont toks (if takes toks wTop (f s) then topS toks (f s).step else f s) rest := by
  have e := opt_word (toks := toks) (s := f s) (rest := rest) (sym := sTOP) (w := wTop) (m := [sNUM, sFROM]) ⟨by decide, by decide, by decide, by decide⟩ bec_TOP
  cases ht : takes toks wTop (f s)
  · exact e.2 ht
  · show _ = cont toks (topS toks (f s).step) rest
    rw [e.1 ht, sim_top hT]
theorem run_query {toks : List Tok} (hT : NumToks toks) (len : Nat) : run toks start 0 = ((q4 toks len ps0).failed, (q4 toks len ps0).next) := by
  have h : Sim toks [sBY, [111, 114, 100, 101, 114], sCOL, sDESC, sKEYS, [115, 104, 111, 119], sFUNC, sFUNCS] (q3 toks len) :=
    (sim_q1 toks len).comp ((sim_word toks (t := wOrder) (by decide) (by decide) (by decide) (by decide)).comp ((sim_keyR toks len).comp ((sim_word toks (t := wShow) (by decide) (by decide) (by decide) (by decide)).comp (sim_funR hT len))))
  have e := h ps0 [sTOP]
  rw [cont_run rfl] at e
  have e2 := sim_q4 hT ps0 (q3 toks len) []
  rw [show q3 toks len ps0 = (q3 toks len) ps0 from rfl] at e
  show run toks (start) ps0.next = _
  rw [show start = [sBY, [111, 114, 100, 101, 114], sCOL, sDESC, sKEYS, [115, 104, 111, 119], sFUNC, sFUNCS] ++ [sTOP] from rfl, e, e2]
  show cont toks (q4 toks len ps0) [] = _
  unfold cont
  rw [run_nil]
  cases (q4 toks len ps0).failed <;> rfl
theorem bad_eq {toks : List Tok} (hT : NumToks toks) (len : Nat) : bad toks = (queryS toks len ps0).failed := by
  unfold bad queryS endS
  rw [run_query hT len]
  by_cases h : (q4 toks len ps0).next < toks.length
  · simp [h, PS.fail]
  · simp [h]
theorem pAt_eq {toks : List Tok} (hT : NumToks toks) (len : Nat) : (pAt toks len (run toks start 0).2 : Int) = placeS toks len (queryS toks len ps0) := by
  rw [run_query hT len]
  unfold queryS placeS pAt
  rw [endS_next]
  cases toks[(q4 toks len ps0).next]? <;> rfl
theorem lexFrom_num (l : Bytes) (n : Nat) : NumToks (lexFrom l n).1 := by
  induction n using lexFrom_ind (l := l) with
  | case1 n h hb ih => rw [lexFrom_blk h hb]; exact ih
  | case2 n h hb he => rw [lexFrom_bad h (by simpa using hb) he]; intro t ht; cases ht
  | case3 n h hb he ih =>
    rw [lexFrom_tok h (by simpa using hb) (by omega)]
    intro t ht
    rcases List.mem_cons.1 ht with rfl | ht
    · simp only
      have e : ((l.take (tokEnd l n)).drop n).head? = some l[n] := by
        rw [List.head?_drop, List.getElem?_take_of_lt (by omega), List.getElem?_eq_getElem h]
      cases hq : (l.take (tokEnd l n)).drop n with
      | nil => rw [hq] at e; cases e
      | cons a r => rw [hq] at e; simp at e; simp [numT, e]
    · exact ih t ht
  | case4 n h => rw [lexFrom_end h]; intro t ht; cases ht
end Pr
end Go.Proofs.YtcoofnhdbejnpaaDoor
/- Plain functions: what the tokens of a query that is read without a failure are. -/
namespace Go.Proofs.YtcoofnhdbejnpaaDoor
namespace Pr
open Pq
/-- these tokens stand from the place i on -/
def At (toks : List Tok) (i : Nat) (l : List Tok) : Prop := ∃ r, toks.drop i = l ++ r
theorem At.append {toks a b : List Tok} {i : Nat} (h1 : At toks i a) (h2 : At toks (i + a.length) b) : At toks i (a ++ b) := by
  obtain ⟨r, e1⟩ := h1
  obtain ⟨r2, e2⟩ := h2
  refine ⟨r2, ?_⟩
  rw [← List.drop_drop, e1, List.drop_left] at e2
  rw [e1, e2, List.append_assoc]
theorem At.one {toks : List Tok} {i : Nat} {x : Tok} (h : toks[i]? = some x) : At toks i [x] := by
  have hl : i < toks.length := by
    rcases Nat.lt_or_ge i toks.length with h' | h'
    · exact h'
    · rw [List.getElem?_eq_none h'] at h; cases h
  rw [List.getElem?_eq_getElem hl] at h
  cases h
  exact ⟨toks.drop (i + 1), by rw [List.drop_eq_getElem_cons hl]; rfl⟩
theorem At.mem {toks l : List Tok} {i : Nat} (h : At toks i l) : ∀ x ∈ l, x ∈ toks := by
  obtain ⟨r, e⟩ := h
  intro x hx
  exact List.mem_of_mem_drop (i := i) (by rw [e]; exact List.mem_append_left _ hx)
theorem At.head {toks r : List Tok} {i : Nat} {x : Tok} (h : At toks i (x :: r)) : toks[i]? = some x := by
  obtain ⟨q, e⟩ := h
  have := congrArg List.head? e
  rw [List.head?_drop] at this
  exact this
def adv (s : PS) (n : Nat) : PS := { s with next := s.next + n }
theorem adv_adv (s : PS) (m n : Nat) : adv (adv s m) n = adv s (m + n) := by simp [adv, Nat.add_assoc]
/-- a token that is a number -/
structure NTok (x : Tok) : Prop where
  len : x.text.length ≤ 2
  dig : ∀ c ∈ x.text, isDig c = true
  ne : x.text ≠ []
structure Fine (toks : List Tok) : Prop where
  good : GoodToks toks
  num : NumToks toks
theorem Fine.ntok {toks : List Tok} (h : Fine toks) {x : Tok} (hm : x ∈ toks) (hn : x.num = true) : NTok x := by
  have h1 := h.good x hm hn
  refine ⟨h1.1, h1.2, fun e => ?_⟩
  have h2 := h.num x hm
  rw [e, hn] at h2; cases h2
theorem takes_ok {toks : List Tok} {t : Bytes} {s : PS} (h : takes toks t s = true) : ∃ x, toks[s.next]? = some x ∧ x.text = t ∧ s.failed = false := by
  unfold takes at h
  cases hx : toks[s.next]? with
  | none => rw [hx] at h; simp at h
  | some x => rw [hx] at h; simp at h; exact ⟨x, rfl, h.2, h.1⟩
theorem want_ok {toks : List Tok} {t : Bytes} {s : PS} (h : (wantS toks t s).failed = false) : ∃ x, x.text = t ∧ At toks s.next [x] ∧ wantS toks t s = adv s 1 ∧ s.failed = false := by
  cases ht : takes toks t s
  · simp [wantS, ht, PS.fail] at h
  · obtain ⟨x, h1, h2, h3⟩ := takes_ok ht
    exact ⟨x, h2, At.one h1, by simp [wantS, ht, PS.step, adv], h3⟩
theorem num_ok {toks : List Tok} (hF : Fine toks) {s : PS} (h : (numS toks s).failed = false) : ∃ x, NTok x ∧ At toks s.next [x] ∧ numS toks s = adv s 1 ∧ numV toks s = worth x.text ∧ s.failed = false := by
  cases ht : isNum toks s
  · simp [numS, ht, PS.fail] at h
  · have h2 := ht
    unfold isNum at h2
    cases hx : toks[s.next]? with
    | none => rw [hx] at h2; simp at h2
    | some x =>
      rw [hx] at h2; simp at h2
      exact ⟨x, hF.ntok (List.mem_of_getElem? hx) h2.2, At.one hx, by simp [numS, ht, PS.step, adv], by simp [numV, ht, hx], h2.1⟩
theorem oneOf_ok {toks : List Tok} {txt : Nat → Bytes} {n : Nat} {s : PS} (h : (oneOfS toks txt n s).failed = false) : ∃ k x, k < n ∧ x.text = txt k ∧ At toks s.next [x] ∧ oneOfS toks txt n s = adv s 1 ∧ oneOfV toks txt n s = k ∧ s.failed = false := by
  cases ht : firstTake toks txt n s with
  | none => simp [oneOfS, ht, PS.fail] at h
  | some k =>
    have hk := List.find?_some ht
    have hm := List.mem_of_find?_eq_some ht
    obtain ⟨x, h1, h2, h3⟩ := takes_ok hk
    exact ⟨k, x, by simpa using hm, h2, At.one h1, by simp [oneOfS, ht, PS.step, adv], by simp [oneOfV, ht], h3⟩
theorem nf_of {f : PS → PS} (h : Stays f) {s : PS} (h2 : (f s).failed = false) : s.failed = false := by
  cases hf : s.failed
  · rfl
  · rw [(h s hf).1] at h2; cases h2
/-! edges, frames, functions -/
def EdgeSeg (e : Edge) (l : List Tok) : Prop := ∀ M : Edge → List Tok → Prop, (∀ (x : Tok), x.text = wStart → M ⟨0, 0⟩ [x]) → (∀ (x : Tok), x.text = wEnd → M ⟨1, 0⟩ [x]) → (∀ (x : Tok), x.text = wHere → M ⟨2, 0⟩ [x]) → (∀ (x : Tok) (y : Tok), NTok x → y.text = wBack → M ⟨3, worth x.text⟩ [x, y]) → (∀ (x : Tok) (y : Tok), NTok x → y.text = wOn → M ⟨4, worth x.text⟩ [x, y]) → M e l
theorem EdgeSeg.start (x : Tok) (h : x.text = wStart) : EdgeSeg ⟨0, 0⟩ [x] := fun _ r0 _ _ _ _ => r0 x h
theorem EdgeSeg.endd (x : Tok) (h : x.text = wEnd) : EdgeSeg ⟨1, 0⟩ [x] := fun _ _ r1 _ _ _ => r1 x h
theorem EdgeSeg.here (x : Tok) (h : x.text = wHere) : EdgeSeg ⟨2, 0⟩ [x] := fun _ _ _ r2 _ _ => r2 x h
theorem EdgeSeg.back (x : Tok) (y : Tok) (hx : NTok x) (hy : y.text = wBack) : EdgeSeg ⟨3, worth x.text⟩ [x, y] := fun _ _ _ _ r3 _ => r3 x y hx hy
theorem EdgeSeg.on (x : Tok) (y : Tok) (hx : NTok x) (hy : y.text = wOn) : EdgeSeg ⟨4, worth x.text⟩ [x, y] := fun _ _ _ _ _ r4 => r4 x y hx hy
theorem EdgeSeg_ind {motive : (e : Edge) → (l : List Tok) → EdgeSeg e l → Prop} (start : ∀ (x : Tok) (h : x.text = wStart), motive ⟨0, 0⟩ [x] (EdgeSeg.start x h)) (endd : ∀ (x : Tok) (h : x.text = wEnd), motive ⟨1, 0⟩ [x] (EdgeSeg.endd x h)) (here : ∀ (x : Tok) (h : x.text = wHere), motive ⟨2, 0⟩ [x] (EdgeSeg.here x h)) (back : ∀ (x : Tok) (y : Tok) (hx : NTok x) (hy : y.text = wBack), motive ⟨3, worth x.text⟩ [x, y] (EdgeSeg.back x y hx hy)) (on : ∀ (x : Tok) (y : Tok) (hx : NTok x) (hy : y.text = wOn), motive ⟨4, worth x.text⟩ [x, y] (EdgeSeg.on x y hx hy)) (e : Edge) (l : List Tok) (h : EdgeSeg e l) : motive e l h := by
  obtain ⟨_, q⟩ := h (fun e l => ∃ h : EdgeSeg e l, motive e l h) (fun x h => ⟨_, start x h⟩) (fun x h => ⟨_, endd x h⟩) (fun x h => ⟨_, here x h⟩) (fun x y hx hy => ⟨_, back x y hx hy⟩) (fun x y hx hy => ⟨_, on x y hx hy⟩)
  exact q
theorem edge_ok {toks : List Tok} (hF : Fine toks) {s : PS} (h : (edgeR toks s).2.failed = false) : ∃ e l, EdgeSeg e l ∧ At toks s.next l ∧ edgeR toks s = (e, adv s l.length) := by
  cases t0 : takes toks wStart s
  · cases t1 : takes toks wEnd s
    · cases t2 : takes toks wHere s
      · have e : edgeR toks s = if takes toks wBack (numS toks s) then (⟨3, numV toks s⟩, (numS toks s).step) else (⟨4, numV toks s⟩, wantS toks wOn (numS toks s)) := by simp [edgeR, t0, t1, t2]
        rw [e] at h ⊢
        cases t3 : takes toks wBack (numS toks s)
        · rw [t3] at h
          simp only [Bool.false_eq_true, if_false] at h ⊢
          obtain ⟨y, h1, h2, h3, h4⟩ := want_ok h
          obtain ⟨x, g1, g2, g3, g4, g5⟩ := num_ok hF h4
          rw [h3, g4, g3]
          rw [g3] at h2
          exact ⟨_, _, .on x y g1 h1, g2.append h2, by rw [adv_adv]; rfl⟩
        · rw [t3] at h
          simp only [if_true] at h ⊢
          obtain ⟨y, h1, h2, h3⟩ := takes_ok t3
          obtain ⟨x, g1, g2, g3, g4, g5⟩ := num_ok hF h3
          rw [g4]
          rw [g3] at h1 ⊢
          exact ⟨_, _, .back x y g1 h2, g2.append (At.one h1), by show _ = (_, adv s (1 + 1)); rw [← adv_adv]; rfl⟩
      · obtain ⟨x, h1, h2, h3⟩ := takes_ok t2
        exact ⟨_, _, .here x h2, At.one h1, by simp [edgeR, t0, t1, t2, adv, PS.step]⟩
    · obtain ⟨x, h1, h2, h3⟩ := takes_ok t1
      exact ⟨_, _, .endd x h2, At.one h1, by simp [edgeR, t0, t1, adv, PS.step]⟩
  · obtain ⟨x, h1, h2, h3⟩ := takes_ok t0
    exact ⟨_, _, .start x h2, At.one h1, by simp [edgeR, t0, adv, PS.step]⟩
def FrameSeg (f : Frame) (l : List Tok) : Prop := ∀ M : Frame → List Tok → Prop, (∀ (x : Tok), x.text = wAll → M ⟨0, 0, ⟨0, 0⟩, ⟨0, 0⟩⟩ [x]) → (∀ (x : Tok), x.text = wPeers → M ⟨1, 0, ⟨0, 0⟩, ⟨0, 0⟩⟩ [x]) → (∀ (x : Tok) (y : Tok), x.text = wNear → NTok y → M ⟨2, worth y.text, ⟨0, 0⟩, ⟨0, 0⟩⟩ [x, y]) → (∀ (a : Edge) (b : Edge) (l : List Tok) (m : List Tok) (x : Tok), EdgeSeg a l → x.text = wTo → EdgeSeg b m → M ⟨3, 0, a, b⟩ (l ++ x :: m)) → M f l
theorem FrameSeg.all (x : Tok) (h : x.text = wAll) : FrameSeg ⟨0, 0, ⟨0, 0⟩, ⟨0, 0⟩⟩ [x] := fun _ r0 _ _ _ => r0 x h
theorem FrameSeg.peers (x : Tok) (h : x.text = wPeers) : FrameSeg ⟨1, 0, ⟨0, 0⟩, ⟨0, 0⟩⟩ [x] := fun _ _ r1 _ _ => r1 x h
theorem FrameSeg.near (x : Tok) (y : Tok) (hx : x.text = wNear) (hy : NTok y) : FrameSeg ⟨2, worth y.text, ⟨0, 0⟩, ⟨0, 0⟩⟩ [x, y] := fun _ _ _ r2 _ => r2 x y hx hy
theorem FrameSeg.edges (a : Edge) (b : Edge) (l : List Tok) (m : List Tok) (x : Tok) (ha : EdgeSeg a l) (hx : x.text = wTo) (hb : EdgeSeg b m) : FrameSeg ⟨3, 0, a, b⟩ (l ++ x :: m) := fun _ _ _ _ r3 => r3 a b l m x ha hx hb
theorem FrameSeg_ind {motive : (f : Frame) → (l : List Tok) → FrameSeg f l → Prop} (all : ∀ (x : Tok) (h : x.text = wAll), motive ⟨0, 0, ⟨0, 0⟩, ⟨0, 0⟩⟩ [x] (FrameSeg.all x h)) (peers : ∀ (x : Tok) (h : x.text = wPeers), motive ⟨1, 0, ⟨0, 0⟩, ⟨0, 0⟩⟩ [x] (FrameSeg.peers x h)) (near : ∀ (x : Tok) (y : Tok) (hx : x.text = wNear) (hy : NTok y), motive ⟨2, worth y.text, ⟨0, 0⟩, ⟨0, 0⟩⟩ [x, y] (FrameSeg.near x y hx hy)) (edges : ∀ (a : Edge) (b : Edge) (l : List Tok) (m : List Tok) (x : Tok) (ha : EdgeSeg a l) (hx : x.text = wTo) (hb : EdgeSeg b m), motive ⟨3, 0, a, b⟩ (l ++ x :: m) (FrameSeg.edges a b l m x ha hx hb)) (f : Frame) (l : List Tok) (h : FrameSeg f l) : motive f l h := by
  obtain ⟨_, q⟩ := h (fun f l => ∃ h : FrameSeg f l, motive f l h) (fun x h => ⟨_, all x h⟩) (fun x h => ⟨_, peers x h⟩) (fun x y hx hy => ⟨_, near x y hx hy⟩) (fun a b l m x ha hx hb => ⟨_, edges a b l m x ha hx hb⟩)
  exact q
theorem frame_ok {toks : List Tok} (hF : Fine toks) {s : PS} (h : (frameR toks s).2.failed = false) : ∃ f l, FrameSeg f l ∧ At toks s.next l ∧ frameR toks s = (f, adv s l.length) := by
  cases t0 : takes toks wAll s
  · cases t1 : takes toks wPeers s
    · cases t2 : takes toks wNear s
      · have e : frameR toks s = (⟨3, 0, (edgeR toks s).1, (edgeR toks (wantS toks wTo (edgeR toks s).2)).1⟩, (edgeR toks (wantS toks wTo (edgeR toks s).2)).2) := by simp [frameR, t0, t1, t2]
        rw [e] at h ⊢
        simp only at h
        obtain ⟨e2, m, h1, h2, h3⟩ := edge_ok hF h
        obtain ⟨x, g1, g2, g3, g4⟩ := want_ok (nf_of (stays_edge toks) h)
        obtain ⟨e1, l, k1, k2, k3⟩ := edge_ok hF g4
        rw [h3]
        rw [g3] at h2 ⊢
        rw [k3] at g2 h2 ⊢
        simp only at g2 h2 ⊢
        refine ⟨_, _, .edges e1 e2 l m x k1 g1 h1, k2.append (At.append (a := [x]) g2 h2), ?_⟩
        rw [adv_adv, adv_adv]
        simp [Nat.add_comm, Nat.add_left_comm]
      · obtain ⟨x, h1, h2, h3⟩ := takes_ok t2
        have e : frameR toks s = (⟨2, numV toks s.step, ⟨0, 0⟩, ⟨0, 0⟩⟩, numS toks s.step) := by simp [frameR, t0, t1, t2]
        rw [e] at h ⊢
        obtain ⟨y, g1, g2, g3, g4, g5⟩ := num_ok hF h
        rw [g3, g4]
        exact ⟨_, _, .near x y h2 g1, (At.one h1).append g2, by show _ = (_, adv s (1 + 1)); rw [← adv_adv]; rfl⟩
    · obtain ⟨x, h1, h2, h3⟩ := takes_ok t1
      exact ⟨_, _, .peers x h2, At.one h1, by simp [frameR, t0, t1, adv, PS.step]⟩
  · obtain ⟨x, h1, h2, h3⟩ := takes_ok t0
    exact ⟨_, _, .all x h2, At.one h1, by simp [frameR, t0, adv, PS.step]⟩
def FnSeg (f : Fn) (l : List Tok) : Prop := ∀ M : Fn → List Tok → Prop, (∀ (k : Nat) (x : Tok), k < 3 → x.text = kindTxt k → M ⟨k, 0, 0, fr0⟩ [x]) → (∀ (x : Tok) (a : Tok) (y : Tok) (b : Tok), x.text = kindTxt 3 → a.text = wOpen → NTok y → b.text = wClose → M ⟨3, 0, worth y.text, fr0⟩ [x, a, y, b]) → (∀ (k : Nat) (c : Nat) (x : Tok) (a : Tok) (p : Tok) (q : Tok) (y : Tok) (b : Tok), 3 < k → k < 6 → c < 3 → x.text = kindTxt k → a.text = wOpen → p.text = colTxt c → q.text = wComma → NTok y → b.text = wClose → M ⟨k, c, worth y.text, fr0⟩ [x, a, p, q, y, b]) → (∀ (k : Nat) (c : Nat) (f : Frame) (x : Tok) (a : Tok) (p : Tok) (q : Tok) (b : Tok) (l : List Tok), 5 < k → k < 12 → c < 3 → x.text = kindTxt k → a.text = wOpen → p.text = colTxt c → q.text = wComma → FrameSeg f l → b.text = wClose → M ⟨k, c, 0, f⟩ (x :: a :: p :: q :: (l ++ [b]))) → M f l
theorem FnSeg.word (k : Nat) (x : Tok) (hk : k < 3) (hx : x.text = kindTxt k) : FnSeg ⟨k, 0, 0, fr0⟩ [x] := fun _ r0 _ _ _ => r0 k x hk hx
theorem FnSeg.tile (x : Tok) (a : Tok) (y : Tok) (b : Tok) (hx : x.text = kindTxt 3) (ha : a.text = wOpen) (hy : NTok y) (hb : b.text = wClose) : FnSeg ⟨3, 0, worth y.text, fr0⟩ [x, a, y, b] := fun _ _ r1 _ _ => r1 x a y b hx ha hy hb
theorem FnSeg.lag (k : Nat) (c : Nat) (x : Tok) (a : Tok) (p : Tok) (q : Tok) (y : Tok) (b : Tok) (h1 : 3 < k) (h2 : k < 6) (hc : c < 3) (hx : x.text = kindTxt k) (ha : a.text = wOpen) (hp : p.text = colTxt c) (hq : q.text = wComma) (hy : NTok y) (hb : b.text = wClose) : FnSeg ⟨k, c, worth y.text, fr0⟩ [x, a, p, q, y, b] := fun _ _ _ r2 _ => r2 k c x a p q y b h1 h2 hc hx ha hp hq hy hb
theorem FnSeg.over (k : Nat) (c : Nat) (f : Frame) (x : Tok) (a : Tok) (p : Tok) (q : Tok) (b : Tok) (l : List Tok) (h1 : 5 < k) (h2 : k < 12) (hc : c < 3) (hx : x.text = kindTxt k) (ha : a.text = wOpen) (hp : p.text = colTxt c) (hq : q.text = wComma) (hf : FrameSeg f l) (hb : b.text = wClose) : FnSeg ⟨k, c, 0, f⟩ (x :: a :: p :: q :: (l ++ [b])) := fun _ _ _ _ r3 => r3 k c f x a p q b l h1 h2 hc hx ha hp hq hf hb
theorem FnSeg_ind {motive : (f : Fn) → (l : List Tok) → FnSeg f l → Prop} (word : ∀ (k : Nat) (x : Tok) (hk : k < 3) (hx : x.text = kindTxt k), motive ⟨k, 0, 0, fr0⟩ [x] (FnSeg.word k x hk hx)) (tile : ∀ (x : Tok) (a : Tok) (y : Tok) (b : Tok) (hx : x.text = kindTxt 3) (ha : a.text = wOpen) (hy : NTok y) (hb : b.text = wClose), motive ⟨3, 0, worth y.text, fr0⟩ [x, a, y, b] (FnSeg.tile x a y b hx ha hy hb)) (lag : ∀ (k : Nat) (c : Nat) (x : Tok) (a : Tok) (p : Tok) (q : Tok) (y : Tok) (b : Tok) (h1 : 3 < k) (h2 : k < 6) (hc : c < 3) (hx : x.text = kindTxt k) (ha : a.text = wOpen) (hp : p.text = colTxt c) (hq : q.text = wComma) (hy : NTok y) (hb : b.text = wClose), motive ⟨k, c, worth y.text, fr0⟩ [x, a, p, q, y, b] (FnSeg.lag k c x a p q y b h1 h2 hc hx ha hp hq hy hb)) (over : ∀ (k : Nat) (c : Nat) (f : Frame) (x : Tok) (a : Tok) (p : Tok) (q : Tok) (b : Tok) (l : List Tok) (h1 : 5 < k) (h2 : k < 12) (hc : c < 3) (hx : x.text = kindTxt k) (ha : a.text = wOpen) (hp : p.text = colTxt c) (hq : q.text = wComma) (hf : FrameSeg f l) (hb : b.text = wClose), motive ⟨k, c, 0, f⟩ (x :: a :: p :: q :: (l ++ [b])) (FnSeg.over k c f x a p q b l h1 h2 hc hx ha hp hq hf hb)) (f : Fn) (l : List Tok) (h : FnSeg f l) : motive f l h := by
  obtain ⟨_, q⟩ := h (fun f l => ∃ h : FnSeg f l, motive f l h) (fun k x hk hx => ⟨_, word k x hk hx⟩) (fun x a y b hx ha hy hb => ⟨_, tile x a y b hx ha hy hb⟩) (fun k c x a p q y b h1 h2 hc hx ha hp hq hy hb => ⟨_, lag k c x a p q y b h1 h2 hc hx ha hp hq hy hb⟩) (fun k c f x a p q b l h1 h2 hc hx ha hp hq hf hb => ⟨_, over k c f x a p q b l h1 h2 hc hx ha hp hq hf hb⟩)
  exact q
theorem colComma_ok {toks : List Tok} {s : PS} (h : (colComma toks s).failed = false) : ∃ c a p q, c < 3 ∧ a.text = wOpen ∧ p.text = colTxt c ∧ q.text = wComma ∧ At toks s.next [a, p, q] ∧ colComma toks s = adv s 3 ∧ oneOfV toks colTxt 3 (wantS toks wOpen s) = c ∧ s.failed = false := by
  unfold colComma at h ⊢
  obtain ⟨q, h1, h2, h3, h4⟩ := want_ok h
  obtain ⟨c, p, g1, g2, g3, g4, g5, g6⟩ := oneOf_ok h4
  obtain ⟨a, k1, k2, k3, k4⟩ := want_ok g6
  rw [g4, k3] at h2
  rw [k3] at g3
  refine ⟨c, a, p, q, g1, k1, g2, h1, (At.append (a := [a]) k2 (At.append (a := [p]) g3 ?_)), ?_, g5, k4⟩
  · simpa [adv] using h2
  · rw [h3, g4, k3, adv_adv, adv_adv]
/-- the place of the number of a tile that is nought, for each FUNC's tokens -/
def tile0 (l : List Tok) : Int := match l with | x :: _ :: y :: _ => if x.text = kindTxt 3 ∧ worth y.text = 0 then (y.at' : Int) else -1 | _ => -1
theorem tile0_not {x : Tok} {l : List Tok} (h : x.text ≠ kindTxt 3) : tile0 (x :: l) = -1 := by
  match l with
  | [] => rfl
  | [_] => rfl
  | _ :: y :: _ => simp [tile0, h]
theorem func_ok {toks : List Tok} (hF : Fine toks) {len : Nat} {s : PS} (h : (funcR toks len s).2.failed = false) : ∃ f l, FnSeg f l ∧ At toks s.next l ∧ funcR toks len s = (f, { adv s l.length with arg := if s.arg = -1 then tile0 l else s.arg }) := by
  have hs : (oneOfS toks kindTxt 12 s).failed = false := by
    cases hf : (oneOfS toks kindTxt 12 s).failed
    · rfl
    · exfalso
      have : firstTake toks kindTxt 12 s = none := by
        unfold oneOfS at hf
        cases ht : firstTake toks kindTxt 12 s with
        | none => rfl
        | some k =>
          rw [ht] at hf
          have hk := List.find?_some ht
          obtain ⟨x, h1, h2, h3⟩ := takes_ok hk
          simp [PS.step, h3] at hf
      simp [funcR, oneOfV, oneOfS, this, PS.fail] at h
  obtain ⟨k, x, hk, hx, ha, e1, e2, hf⟩ := oneOf_ok hs
  have e : funcR toks len s = if k < 3 then (⟨k, 0, 0, fr0⟩, adv s 1) else if k = 3 then tileR toks len (adv s 1) else if k < 6 then lagR toks k (adv s 1) else overR toks k (adv s 1) := by simp only [funcR, e1, e2]
  have hno : ∀ k, k < 12 → k ≠ 3 → kindTxt k ≠ kindTxt 3 := by decide
  have eid : ∀ (s : PS) (n : Nat), { adv s n with arg := if s.arg = -1 then -1 else s.arg } = adv s n := by
    intro s n; by_cases h : s.arg = -1
    · simp [adv, h]
    · simp [adv, h]
  rw [e] at h ⊢
  clear e hs e1 e2
  by_cases hk3 : k < 3
  · rw [if_pos hk3]
    refine ⟨_, _, .word k x hk3 hx, ha, ?_⟩
    rw [tile0_not (by rw [hx]; exact hno k (by omega) (by omega)), eid]; rfl
  rw [if_neg hk3] at h ⊢
  by_cases hke : k = 3
  · subst hke
    rw [if_pos rfl] at h ⊢
    simp only [tileR] at h ⊢
    obtain ⟨b, h1, h2, h3, h4⟩ := want_ok h
    obtain ⟨y, g1, g2, g3, g4, g5⟩ := num_ok hF (s := wantS toks wOpen (adv s 1)) ((tileS_nf toks len _).1.symm.trans h4)
    obtain ⟨a, k1, k2, k3, k4⟩ := want_ok g5
    have en := (tileS_nf toks len (wantS toks wOpen (adv s 1))).2
    rw [g3] at en
    rw [en, k3, adv_adv] at h2
    rw [k3] at g2
    have hy := g2.head
    refine ⟨_, _, .tile x a y b hx k1 g1 h1, At.append (a := [x]) ha (At.append (a := [a]) k2 (At.append (a := [y]) g2 h2)), ?_⟩
    rw [h3, g4]
    congr 1
    unfold tileS
    rw [g4, g3, k3, adv_adv, adv_adv]
    have hp : placeS toks len (adv (adv s 1) 1) = (y.at' : Int) := by
      unfold placeS
      rw [hy]
    rw [hp]
    show adv (if worth y.text = 0 ∧ s.arg = -1 then _ else _) 1 = _
    simp only [tile0, hx, true_and]
    by_cases hw : worth y.text = 0
    · by_cases hg : s.arg = -1
      · simp [hw, hg, adv]
      · simp [hw, hg, adv]
    · by_cases hg : s.arg = -1
      · simp [hw, hg, adv]
      · simp [hw, hg, adv]
  rw [if_neg hke] at h ⊢
  have hx3 : x.text ≠ kindTxt 3 := by rw [hx]; exact hno k hk hke
  by_cases hk6 : k < 6
  · rw [if_pos hk6] at h ⊢
    simp only [lagR] at h ⊢
    obtain ⟨b, h1, h2, h3, h4⟩ := want_ok h
    obtain ⟨y, g1, g2, g3, g4, g5⟩ := num_ok hF h4
    obtain ⟨c, a, p, q, k0, k1, k2, k3, k4, k5, k6, k7⟩ := colComma_ok g5
    rw [g3, k5, adv_adv, adv_adv] at h2
    rw [k5, adv_adv] at g2
    refine ⟨_, _, .lag k c x a p q y b (by omega) hk6 k0 hx k1 k2 k3 g1 h1, At.append (a := [x]) ha (At.append (a := [a, p, q]) k4 (At.append (a := [y]) g2 h2)), ?_⟩
    rw [h3, g4, g3, k5, k6, tile0_not hx3, eid, adv_adv, adv_adv, adv_adv]; rfl
  · rw [if_neg hk6] at h ⊢
    simp only [overR] at h ⊢
    obtain ⟨b, h1, h2, h3, h4⟩ := want_ok h
    obtain ⟨f, l, g1, g2, g3⟩ := frame_ok hF h4
    obtain ⟨c, a, p, q, k0, k1, k2, k3, k4, k5, k6, k7⟩ := colComma_ok (nf_of (stays_frame toks) h4)
    rw [g3, k5, adv_adv] at h2
    rw [k5, adv_adv] at g2
    simp only [adv_adv] at h2
    refine ⟨_, _, .over k c f x a p q b l (by omega) hk k0 hx k1 k2 k3 g1 h1, At.append (a := [x]) ha (At.append (a := [a, p, q]) k4 (At.append g2 (by rw [show s.next + [x].length + [a, p, q].length + l.length = (adv s (1 + (3 + l.length))).next from by simp [adv]; omega]; exact h2))), ?_⟩
    rw [h3, g3, k5, k6, tile0_not hx3, eid, adv_adv, adv_adv, adv_adv]
    simp only [List.length_cons, List.length_append, List.length_nil]
    congr 2
    omega
end Pr
end Go.Proofs.YtcoofnhdbejnpaaDoor
/- Plain functions: what the tokens of a query that is read without a failure are: lists, and the whole. -/
namespace Go.Proofs.YtcoofnhdbejnpaaDoor
namespace Pr
open Pq
def ColsSeg (cs : List Nat) (l : List Tok) : Prop := ∀ M : List Nat → List Tok → Prop, (∀ (c : Nat) (x : Tok), c < 3 → x.text = colTxt c → M [c] [x]) → (∀ (c : Nat) (x : Tok) (y : Tok) (cs : List Nat) (l : List Tok), c < 3 → x.text = colTxt c → y.text = wComma → M cs l → M (c :: cs) (x :: y :: l)) → M cs l
theorem ColsSeg.one (c : Nat) (x : Tok) (hc : c < 3) (hx : x.text = colTxt c) : ColsSeg [c] [x] := fun _ r0 _ => r0 c x hc hx
theorem ColsSeg.more (c : Nat) (x : Tok) (y : Tok) (cs : List Nat) (l : List Tok) (hc : c < 3) (hx : x.text = colTxt c) (hy : y.text = wComma) (h : ColsSeg cs l) : ColsSeg (c :: cs) (x :: y :: l) := fun M r0 r1 => r1 c x y cs l hc hx hy (h M r0 r1)
theorem ColsSeg_ind {motive : (cs : List Nat) → (l : List Tok) → ColsSeg cs l → Prop} (one : ∀ (c : Nat) (x : Tok) (hc : c < 3) (hx : x.text = colTxt c), motive [c] [x] (ColsSeg.one c x hc hx)) (more : ∀ (c : Nat) (x : Tok) (y : Tok) (cs : List Nat) (l : List Tok) (hc : c < 3) (hx : x.text = colTxt c) (hy : y.text = wComma) (h : ColsSeg cs l), motive cs l h → motive (c :: cs) (x :: y :: l) (ColsSeg.more c x y cs l hc hx hy h)) (cs : List Nat) (l : List Tok) (h : ColsSeg cs l) : motive cs l h := by
  obtain ⟨_, q⟩ := h (fun cs l => ∃ h : ColsSeg cs l, motive cs l h) (fun c x hc hx => ⟨_, one c x hc hx⟩) (fun c x y cs l hc hx hy ⟨h, q_h⟩ => ⟨_, more c x y cs l hc hx hy h q_h⟩)
  exact q
def KeySeg (k : Nat × Bool) (l : List Tok) : Prop := ∀ M : Nat × Bool → List Tok → Prop, (∀ (c : Nat) (x : Tok), c < 3 → x.text = colTxt c → M (c, false) [x]) → (∀ (c : Nat) (x : Tok) (y : Tok), c < 3 → x.text = colTxt c → y.text = wDesc → M (c, true) [x, y]) → M k l
theorem KeySeg.asc (c : Nat) (x : Tok) (hc : c < 3) (hx : x.text = colTxt c) : KeySeg (c, false) [x] := fun _ r0 _ => r0 c x hc hx
theorem KeySeg.desc (c : Nat) (x : Tok) (y : Tok) (hc : c < 3) (hx : x.text = colTxt c) (hy : y.text = wDesc) : KeySeg (c, true) [x, y] := fun _ _ r1 => r1 c x y hc hx hy
theorem KeySeg_ind {motive : (k : Nat × Bool) → (l : List Tok) → KeySeg k l → Prop} (asc : ∀ (c : Nat) (x : Tok) (hc : c < 3) (hx : x.text = colTxt c), motive (c, false) [x] (KeySeg.asc c x hc hx)) (desc : ∀ (c : Nat) (x : Tok) (y : Tok) (hc : c < 3) (hx : x.text = colTxt c) (hy : y.text = wDesc), motive (c, true) [x, y] (KeySeg.desc c x y hc hx hy)) (k : Nat × Bool) (l : List Tok) (h : KeySeg k l) : motive k l h := by
  obtain ⟨_, q⟩ := h (fun k l => ∃ h : KeySeg k l, motive k l h) (fun c x hc hx => ⟨_, asc c x hc hx⟩) (fun c x y hc hx hy => ⟨_, desc c x y hc hx hy⟩)
  exact q
theorem KeySeg_inv {k : Nat × Bool} {l : List Tok} (h : KeySeg k l) : (∃ c x, k = (c, false) ∧ l = [x] ∧ c < 3 ∧ x.text = colTxt c) ∨ ∃ c x y, k = (c, true) ∧ l = [x, y] ∧ c < 3 ∧ x.text = colTxt c ∧ y.text = wDesc :=
  h (fun k l => (∃ c x, k = (c, false) ∧ l = [x] ∧ c < 3 ∧ x.text = colTxt c) ∨ ∃ c x y, k = (c, true) ∧ l = [x, y] ∧ c < 3 ∧ x.text = colTxt c ∧ y.text = wDesc) (fun c x hc hx => .inl ⟨c, x, rfl, rfl, hc, hx⟩) (fun c x y hc hx hy => .inr ⟨c, x, y, rfl, rfl, hc, hx, hy⟩)
def KeysSeg (ks : List (Nat × Bool)) (l : List Tok) : Prop := ∀ M : List (Nat × Bool) → List Tok → Prop, (∀ (k : Nat × Bool) (l : List Tok), KeySeg k l → M [k] l) → (∀ (k : Nat × Bool) (l : List Tok) (y : Tok) (ks : List (Nat × Bool)) (m : List Tok), KeySeg k l → y.text = wComma → M ks m → M (k :: ks) (l ++ y :: m)) → M ks l
theorem KeysSeg.one (k : Nat × Bool) (l : List Tok) (hk : KeySeg k l) : KeysSeg [k] l := fun _ r0 _ => r0 k l hk
theorem KeysSeg.more (k : Nat × Bool) (l : List Tok) (y : Tok) (ks : List (Nat × Bool)) (m : List Tok) (hk : KeySeg k l) (hy : y.text = wComma) (h : KeysSeg ks m) : KeysSeg (k :: ks) (l ++ y :: m) := fun M r0 r1 => r1 k l y ks m hk hy (h M r0 r1)
theorem KeysSeg_ind {motive : (ks : List (Nat × Bool)) → (l : List Tok) → KeysSeg ks l → Prop} (one : ∀ (k : Nat × Bool) (l : List Tok) (hk : KeySeg k l), motive [k] l (KeysSeg.one k l hk)) (more : ∀ (k : Nat × Bool) (l : List Tok) (y : Tok) (ks : List (Nat × Bool)) (m : List Tok) (hk : KeySeg k l) (hy : y.text = wComma) (h : KeysSeg ks m), motive ks m h → motive (k :: ks) (l ++ y :: m) (KeysSeg.more k l y ks m hk hy h)) (ks : List (Nat × Bool)) (l : List Tok) (h : KeysSeg ks l) : motive ks l h := by
  obtain ⟨_, q⟩ := h (fun ks l => ∃ h : KeysSeg ks l, motive ks l h) (fun k l hk => ⟨_, one k l hk⟩) (fun k l y ks m hk hy ⟨h, q_h⟩ => ⟨_, more k l y ks m hk hy h q_h⟩)
  exact q
def FunsSeg (fs : List Fn) (segs : List (List Tok)) (l : List Tok) : Prop := ∀ M : List Fn → List (List Tok) → List Tok → Prop, (∀ (f : Fn) (l : List Tok), FnSeg f l → M [f] [l] l) → (∀ (f : Fn) (l : List Tok) (y : Tok) (fs : List Fn) (segs : List (List Tok)) (m : List Tok), FnSeg f l → y.text = wComma → M fs segs m → M (f :: fs) (l :: segs) (l ++ y :: m)) → M fs segs l
theorem FunsSeg.one (f : Fn) (l : List Tok) (hf : FnSeg f l) : FunsSeg [f] [l] l := fun _ r0 _ => r0 f l hf
theorem FunsSeg.more (f : Fn) (l : List Tok) (y : Tok) (fs : List Fn) (segs : List (List Tok)) (m : List Tok) (hf : FnSeg f l) (hy : y.text = wComma) (h : FunsSeg fs segs m) : FunsSeg (f :: fs) (l :: segs) (l ++ y :: m) := fun M r0 r1 => r1 f l y fs segs m hf hy (h M r0 r1)
theorem FunsSeg_ind {motive : (fs : List Fn) → (segs : List (List Tok)) → (l : List Tok) → FunsSeg fs segs l → Prop} (one : ∀ (f : Fn) (l : List Tok) (hf : FnSeg f l), motive [f] [l] l (FunsSeg.one f l hf)) (more : ∀ (f : Fn) (l : List Tok) (y : Tok) (fs : List Fn) (segs : List (List Tok)) (m : List Tok) (hf : FnSeg f l) (hy : y.text = wComma) (h : FunsSeg fs segs m), motive fs segs m h → motive (f :: fs) (l :: segs) (l ++ y :: m) (FunsSeg.more f l y fs segs m hf hy h)) (fs : List Fn) (segs : List (List Tok)) (l : List Tok) (h : FunsSeg fs segs l) : motive fs segs l h := by
  obtain ⟨_, q⟩ := h (fun fs segs l => ∃ h : FunsSeg fs segs l, motive fs segs l h) (fun f l hf => ⟨_, one f l hf⟩) (fun f l y fs segs m hf hy ⟨h, q_h⟩ => ⟨_, more f l y fs segs m hf hy h q_h⟩)
  exact q
def TopSeg (ht : Bool) (tp : Int) (fr : Int) (tl : List Tok) : Prop := ∀ M : Bool → Int → Int → List Tok → Prop, (M false 0 0 []) → (∀ (x : Tok) (y : Tok), x.text = wTop → NTok y → M true (worth y.text) 0 [x, y]) → (∀ (x : Tok) (y : Tok) (a : Tok) (b : Tok), x.text = wTop → NTok y → a.text = wFrom → NTok b → M true (worth y.text) (worth b.text) [x, y, a, b]) → M ht tp fr tl
theorem TopSeg.none  : TopSeg false 0 0 [] := fun _ r0 _ _ => r0 
theorem TopSeg.top (x : Tok) (y : Tok) (hx : x.text = wTop) (hy : NTok y) : TopSeg true (worth y.text) 0 [x, y] := fun _ _ r1 _ => r1 x y hx hy
theorem TopSeg.frm (x : Tok) (y : Tok) (a : Tok) (b : Tok) (hx : x.text = wTop) (hy : NTok y) (ha : a.text = wFrom) (hb : NTok b) : TopSeg true (worth y.text) (worth b.text) [x, y, a, b] := fun _ _ _ r2 => r2 x y a b hx hy ha hb
theorem TopSeg_ind {motive : (ht : Bool) → (tp : Int) → (fr : Int) → (tl : List Tok) → TopSeg ht tp fr tl → Prop} (none : motive false 0 0 [] TopSeg.none) (top : ∀ (x : Tok) (y : Tok) (hx : x.text = wTop) (hy : NTok y), motive true (worth y.text) 0 [x, y] (TopSeg.top x y hx hy)) (frm : ∀ (x : Tok) (y : Tok) (a : Tok) (b : Tok) (hx : x.text = wTop) (hy : NTok y) (ha : a.text = wFrom) (hb : NTok b), motive true (worth y.text) (worth b.text) [x, y, a, b] (TopSeg.frm x y a b hx hy ha hb)) (ht : Bool) (tp : Int) (fr : Int) (tl : List Tok) (h : TopSeg ht tp fr tl) : motive ht tp fr tl h := by
  obtain ⟨_, q⟩ := h (fun ht tp fr tl => ∃ h : TopSeg ht tp fr tl, motive ht tp fr tl h) ⟨_, none⟩ (fun x y hx hy => ⟨_, top x y hx hy⟩) (fun x y a b hx hy ha hb => ⟨_, frm x y a b hx hy ha hb⟩)
  exact q
def isColT (t : Bytes) : Bool := inW t colWs
/-- the place of the first COL that stands there a second time -/
def twF (seen : List Bytes) : List Tok → Int
  | [] => -1
  | x :: r => if isColT x.text && seen.contains x.text then (x.at' : Int) else twF (x.text :: seen) r
def headAt (l : List Tok) : Int := match l with | x :: _ => (x.at' : Int) | [] => -1
def manyG (n : Nat) (m : Int) : List (List Tok) → Int
  | [] => m
  | l :: r => manyG (n + 1) (if n = 4 then headAt l else m) r
def argG (a : Int) : List (List Tok) → Int
  | [] => a
  | l :: r => argG (if a = -1 then tile0 l else a) r
theorem isColT_col {c : Nat} (h : c < 3) : isColT (colTxt c) = true := by
  match c, h with
  | 0, _ => decide
  | 1, _ => decide
  | 2, _ => decide
theorem colTxt_inj {c d : Nat} (hc : c < 3) (hd : d < 3) (h : colTxt c = colTxt d) : c = d := by
  have : ∀ c, c < 3 → ∀ d, d < 3 → colTxt c = colTxt d → c = d := by decide
  exact this c hc d hd h
theorem comma_col {c : Nat} (h : c < 3) : wComma ≠ colTxt c := by
  have : ∀ c, c < 3 → wComma ≠ colTxt c := by decide
  exact this c h
theorem desc_col {c : Nat} (h : c < 3) : wDesc ≠ colTxt c := by
  have : ∀ c, c < 3 → wDesc ≠ colTxt c := by decide
  exact this c h
/-- these texts hold just the columns that q tells -/
def Seen (seen : List Bytes) (q : Nat → Bool) : Prop := ∀ c, c < 3 → seen.contains (colTxt c) = q c
theorem Seen.col {seen : List Bytes} {q : Nat → Bool} {c : Nat} (h : Seen seen q) (hc : c < 3) : Seen (colTxt c :: seen) (fun d => q d || d == c) := by
  intro d hd
  rw [List.contains_cons, h d hd]
  by_cases e : d = c
  · subst e; simp
  · have : (colTxt d == colTxt c) = false := by simp; exact fun h => e (colTxt_inj hd hc h)
    simp [this, e]
theorem Seen.other {seen : List Bytes} {q : Nat → Bool} {t : Bytes} (h : Seen seen q) (ht : ∀ c, c < 3 → t ≠ colTxt c) : Seen (t :: seen) q := by
  intro d hd
  rw [List.contains_cons, h d hd]
  have : (colTxt d == t) = false := by simp; exact fun h => ht d hd h.symm
  simp [this]
theorem Seen.of {seen : List Bytes} {q q' : Nat → Bool} (h : Seen seen q) (e : ∀ c, q c = q' c) : Seen seen q' := fun c hc => (h c hc).trans (e c)
theorem twF_col {seen : List Bytes} {q : Nat → Bool} {c : Nat} {x : Tok} {r : List Tok} (h : Seen seen q) (hc : c < 3) (hx : x.text = colTxt c) : twF seen (x :: r) = if q c then (x.at' : Int) else twF (colTxt c :: seen) r := by
  simp only [twF, hx, isColT_col hc, h c hc, Bool.true_and]
theorem twF_comma {seen : List Bytes} {y : Tok} {r : List Tok} (hy : y.text = wComma) : twF seen (y :: r) = twF (wComma :: seen) r := by
  have : isColT wComma = false := by decide
  simp [twF, hy, this]
theorem twF_desc {seen : List Bytes} {y : Tok} {r : List Tok} (hy : y.text = wDesc) : twF seen (y :: r) = twF (wDesc :: seen) r := by
  have : isColT wDesc = false := by decide
  simp [twF, hy, this]
theorem place_at {toks : List Tok} {len : Nat} {s : PS} {x : Tok} {r : List Tok} (h : At toks s.next (x :: r)) : placeS toks len s = (x.at' : Int) := by
  unfold placeS; rw [h.head]
theorem byStep_ok {toks : List Tok} {len : Nat} {s : PS} (h : (byStep toks len s).failed = false) : ∃ c x, c < 3 ∧ x.text = colTxt c ∧ At toks s.next [x] ∧ byStep toks len s = { adv s 1 with by' := s.by' ++ [c], twice := if s.twice = -1 ∧ hasC s.by' c = true then (x.at' : Int) else s.twice } := by
  rw [(byStep_nf toks len s).1] at h
  obtain ⟨c, x, h1, h2, h3, h4, h5, h6⟩ := oneOf_ok h
  refine ⟨c, x, h1, h2, h3, ?_⟩
  have e : colAt toks s = c := h5
  unfold byStep byMark
  rw [e, h4, place_at h3]
  cases hc : hasC s.by' c
  · simp [adv]
  · by_cases ht : s.twice = -1
    · simp [adv, twiceS, ht]
    · simp [adv, twiceS, ht]
theorem byR_ok {toks : List Tok} {len : Nat} {s : PS} (h : (byR toks len s).failed = false) : ∃ cs l, ColsSeg cs l ∧ At toks s.next l ∧ ∀ seen, Seen seen (hasC s.by') → byR toks len s = { adv s l.length with by' := s.by' ++ cs, twice := if s.twice = -1 then twF seen l else s.twice } := by
  induction s using byR_ind (toks := toks) (len := len) with
  | case1 s ht ih =>
    rw [byR_eq, dif_pos ht] at h
    obtain ⟨cs, l, g1, g2, g3⟩ := ih h
    obtain ⟨y, k1, k2, k3⟩ := takes_ok ht
    obtain ⟨c, x, h1, h2, h3, h4⟩ := byStep_ok k3
    rw [h4] at k1 g2
    refine ⟨c :: cs, x :: y :: l, .more c x y cs l h1 h2 k2 g1, At.append (a := [x]) h3 (At.append (a := [y]) (At.one k1) g2), fun seen hs => ?_⟩
    rw [byR_eq, dif_pos ht]
    have hs2 : Seen (wComma :: colTxt c :: seen) (hasC (byStep toks len s).step.by') := by
      refine ((hs.col h1).other (fun d hd => comma_col hd)).of (fun d => ?_)
      rw [h4]
      simp [hasC, PS.step]
      rfl
    rw [g3 _ hs2, twF_col hs h1 h2, twF_comma k2, h4]
    cases hc : hasC s.by' c
    · simp [adv, PS.step, Nat.add_assoc]; omega
    · by_cases ht : s.twice = -1
      · simp [adv, PS.step, ht, Nat.add_assoc]
        omega
      · simp [adv, PS.step, ht, Nat.add_assoc]; omega
  | case2 s ht =>
    rw [byR_eq, dif_neg ht] at h
    obtain ⟨c, x, h1, h2, h3, h4⟩ := byStep_ok h
    refine ⟨[c], [x], .one c x h1 h2, h3, fun seen hs => ?_⟩
    rw [byR_eq, dif_neg ht, twF_col hs h1 h2, h4]
    cases hc : hasC s.by' c
    · simp [twF]
    · simp
theorem keyStep_ok {toks : List Tok} {len : Nat} {s : PS} (h : (keyStep toks len s).failed = false) : ∃ k x r, KeySeg k (x :: r) ∧ At toks s.next (x :: r) ∧ keyStep toks len s = { adv s (x :: r).length with keys := s.keys ++ [k], twice := if s.twice = -1 ∧ hasK s.keys k.1 = true then (x.at' : Int) else s.twice } := by
  rw [(keyStep_nf toks len s).1] at h
  have hs := nf_of (stays_take toks wDesc) h
  obtain ⟨c, x, h1, h2, h3, h4, h5, h6⟩ := oneOf_ok hs
  have e : colAt toks s = c := h5
  cases ht : takes toks wDesc (adv s 1)
  · refine ⟨(c, false), x, [], .asc c x h1 h2, h3, ?_⟩
    unfold keyStep keyMark keySt keyDesc
    rw [e, h4, place_at h3, ht]
    simp only [takeS, ht]
    cases hc : hasK s.keys c
    · simp [adv]
    · by_cases ht : s.twice = -1
      · simp [adv, twiceS, ht]
      · simp [adv, twiceS, ht]
  · obtain ⟨y, k1, k2, k3⟩ := takes_ok ht
    refine ⟨(c, true), x, [y], .desc c x y h1 h2 k2, At.append (a := [x]) h3 (At.one k1), ?_⟩
    unfold keyStep keyMark keySt keyDesc
    rw [e, h4, place_at h3, ht]
    simp only [takeS, ht]
    cases hc : hasK s.keys c
    · simp [adv, PS.step]
    · by_cases ht : s.twice = -1
      · simp [adv, twiceS, ht, PS.step]
      · simp [adv, twiceS, ht, PS.step]
theorem twF_key {seen : List Bytes} {q : Nat → Bool} {k : Nat × Bool} {x : Tok} {r m : List Tok} (h : KeySeg k (x :: r)) (hs : Seen seen q) : ∃ seen', Seen seen' (fun d => q d || d == k.1) ∧ twF seen (x :: r ++ m) = if q k.1 then (x.at' : Int) else twF seen' m := by
  rcases KeySeg_inv h with ⟨c, x', rfl, e, h1, h2⟩ | ⟨c, x', y, rfl, e, h1, h2, h3⟩
  · cases e
    exact ⟨_, hs.col h1, twF_col hs h1 h2⟩
  · cases e
    refine ⟨_, (hs.col h1).other (fun d hd => desc_col hd), ?_⟩
    show twF seen (x :: (y :: m)) = _
    rw [twF_col hs h1 h2, twF_desc h3]
theorem keyR_ok {toks : List Tok} {len : Nat} {s : PS} (h : (keyR toks len s).failed = false) : ∃ ks l, KeysSeg ks l ∧ At toks s.next l ∧ ∀ seen, Seen seen (hasK s.keys) → keyR toks len s = { adv s l.length with keys := s.keys ++ ks, twice := if s.twice = -1 then twF seen l else s.twice } := by
  induction s using keyR_ind (toks := toks) (len := len) with
  | case1 s ht ih =>
    rw [keyR_eq, dif_pos ht] at h
    obtain ⟨ks, l, g1, g2, g3⟩ := ih h
    obtain ⟨y, k1, k2, k3⟩ := takes_ok ht
    obtain ⟨k, x, r, h1, h3, h4⟩ := keyStep_ok k3
    rw [h4] at k1 g2
    refine ⟨k :: ks, (x :: r) ++ y :: l, .more k (x :: r) y ks l h1 k2 g1, h3.append (At.append (a := [y]) (At.one k1) g2), fun seen hs => ?_⟩
    rw [keyR_eq, dif_pos ht]
    obtain ⟨seen', q1, q2⟩ := twF_key (m := y :: l) h1 hs
    have hs2 : Seen (wComma :: seen') (hasK (keyStep toks len s).step.keys) := by
      refine (q1.other (fun d hd => comma_col hd)).of (fun d => ?_)
      rw [h4]
      simp [hasK, PS.step]
      rw [Bool.beq_comm]
    rw [g3 _ hs2, q2, twF_comma k2, h4]
    cases hc : hasK s.keys k.1
    · simp [adv, PS.step, Nat.add_assoc]; omega
    · by_cases ht : s.twice = -1
      · simp [adv, PS.step, ht, Nat.add_assoc]
        omega
      · simp [adv, PS.step, ht, Nat.add_assoc]; omega
  | case2 s ht =>
    rw [keyR_eq, dif_neg ht] at h
    obtain ⟨k, x, r, h1, h3, h4⟩ := keyStep_ok h
    refine ⟨[k], x :: r, .one k _ h1, h3, fun seen hs => ?_⟩
    obtain ⟨seen', q1, q2⟩ := twF_key (m := []) h1 hs
    rw [List.append_nil] at q2
    rw [keyR_eq, dif_neg ht, q2, h4]
    cases hc : hasK s.keys k.1
    · simp [twF]
    · simp
theorem fnSeg_head {f : Fn} {l : List Tok} (h : FnSeg f l) : ∃ x r, l = x :: r := by
  induction f, l, h using FnSeg_ind <;> exact ⟨_, _, rfl⟩
theorem funStep_ok {toks : List Tok} (hF : Fine toks) {len : Nat} {s : PS} (h : (funStep toks len s).failed = false) : ∃ f l, FnSeg f l ∧ At toks s.next l ∧ funStep toks len s = { adv s l.length with funcs := s.funcs ++ [f], many := if s.funcs.length = 4 then headAt l else s.many, arg := if s.arg = -1 then tile0 l else s.arg } := by
  obtain ⟨f, l, h1, h2, h3⟩ := func_ok hF (s := funMark toks len s) h
  rw [(funMark_nf toks len s).2] at h2
  refine ⟨f, l, h1, h2, ?_⟩
  unfold funStep
  rw [h3]
  obtain ⟨x, r, rfl⟩ := fnSeg_head h1
  unfold funMark
  rw [place_at h2]
  by_cases h4 : s.funcs.length = 4
  · simp [h4, adv, headAt]
  · simp [h4, adv]
theorem funR_ok {toks : List Tok} (hF : Fine toks) {len : Nat} {s : PS} (h : (funR toks len s).failed = false) : ∃ fs segs l, FunsSeg fs segs l ∧ At toks s.next l ∧ funR toks len s = { adv s l.length with funcs := s.funcs ++ fs, many := manyG s.funcs.length s.many segs, arg := argG s.arg segs } := by
  induction s using funR_ind (toks := toks) (len := len) with
  | case1 s ht ih =>
    rw [funR_eq, dif_pos ht] at h
    obtain ⟨fs, segs, l, g1, g2, g3⟩ := ih h
    obtain ⟨y, k1, k2, k3⟩ := takes_ok ht
    obtain ⟨f, m, h1, h2, h3⟩ := funStep_ok hF k3
    rw [h3] at k1 g2
    refine ⟨f :: fs, m :: segs, m ++ y :: l, .more f m y fs segs l h1 k2 g1, h2.append (At.append (a := [y]) (At.one k1) g2), ?_⟩
    rw [funR_eq, dif_pos ht, g3, h3]
    simp [adv, PS.step, Nat.add_assoc, manyG, argG]
    omega
  | case2 s ht =>
    rw [funR_eq, dif_neg ht] at h
    obtain ⟨f, m, h1, h2, h3⟩ := funStep_ok hF h
    refine ⟨[f], [m], m, .one f m h1, h2, ?_⟩
    rw [funR_eq, dif_neg ht, h3]
    simp [manyG, argG]
/-! the whole -/
structure Parts where
  cs : List Nat
  ks : List (Nat × Bool)
  fs : List Fn
  hasTop : Bool
  top : Int
  frm : Int
  bh : List Tok
  bl : List Tok
  o : Tok
  kl : List Tok
  sh : Tok
  segs : List (List Tok)
  fl : List Tok
  tl : List Tok
structure PartsOk (toks : List Tok) (P : Parts) : Prop where
  toks : toks = P.bh ++ (P.bl ++ P.o :: (P.kl ++ P.sh :: (P.fl ++ P.tl)))
  by' : (P.bh = [] ∧ P.bl = [] ∧ P.cs = []) ∨ ∃ x, P.bh = [x] ∧ x.text = wBy ∧ ColsSeg P.cs P.bl
  o : P.o.text = wOrder
  keys : KeysSeg P.ks P.kl
  sh : P.sh.text = wShow
  funs : FunsSeg P.fs P.segs P.fl
  top : TopSeg P.hasTop P.top P.frm P.tl
def Parts.twice (P : Parts) : Int := if twF [] P.bl = -1 then twF [] P.kl else twF [] P.bl
theorem stays_top1 (toks : List Tok) : Stays (top1 toks) := fun s hs => stays_num toks { s with hasTop := true } hs
theorem parse_ok {toks : List Tok} (hF : Fine toks) {len : Nat} (h : (queryS toks len ps0).failed = false) : ∃ P, PartsOk toks P ∧ queryS toks len ps0 = ⟨toks.length, false, P.cs, P.ks, P.fs, P.hasTop, P.top, P.frm, manyG 0 (-1) P.segs, P.twice, argG (-1) P.segs⟩ := by
  have hn : ¬ (q4 toks len ps0).next < toks.length := by
    intro hn; simp [queryS, endS, hn, PS.fail] at h
  have e0 : queryS toks len ps0 = q4 toks len ps0 := by simp [queryS, endS, hn]
  rw [e0] at h ⊢
  clear e0
  have h3 : (q3 toks len ps0).failed = false := by
    unfold q4 at h
    cases ht : takes toks wTop (q3 toks len ps0)
    · rw [ht] at h; exact h
    · obtain ⟨_, _, _, k3⟩ := takes_ok ht; exact k3
  have h3w := nf_of (stays_funR toks len) (s := wantS toks wShow (q2 toks len ps0)) h3
  obtain ⟨sh, s1, s2, s3, s4⟩ := want_ok h3w
  have h2w := nf_of (stays_keyR toks len) (s := wantS toks wOrder (q1 toks len ps0)) s4
  obtain ⟨o, o1, o2, o3, o4⟩ := want_ok h2w
  obtain ⟨cs, bh, bl, hby, hat, hq1⟩ : ∃ cs bh bl, ((bh = [] ∧ bl = [] ∧ cs = []) ∨ ∃ x, bh = [x] ∧ x.text = wBy ∧ ColsSeg cs bl) ∧ At toks 0 (bh ++ bl) ∧ q1 toks len ps0 = { adv ps0 (bh ++ bl).length with by' := cs, twice := twF [] bl } := by
    unfold q1 at o4 ⊢
    cases ht : takes toks wBy ps0
    · exact ⟨[], [], [], .inl ⟨rfl, rfl, rfl⟩, ⟨toks, rfl⟩, rfl⟩
    · rw [ht] at o4
      simp only [if_true] at o4 ⊢
      obtain ⟨x, k1, k2, k3⟩ := takes_ok ht
      obtain ⟨cs, l, g1, g2, g3⟩ := byR_ok o4
      refine ⟨cs, [x], l, .inr ⟨x, rfl, k2, g1⟩, At.append (a := [x]) (At.one k1) (by simpa [PS.step, ps0] using g2), ?_⟩
      rw [g3 [] (fun c hc => rfl)]
      simp [ps0, PS.step, adv, Nat.add_comm]
  obtain ⟨ks, kl, k1, k2, k3⟩ := keyR_ok (s := wantS toks wOrder (q1 toks len ps0)) s4
  have hq2 := k3 [] (by rw [o3, hq1]; exact fun c hc => rfl)
  have hq2' : q2 toks len ps0 = { adv ps0 ((bh ++ bl).length + 1 + kl.length) with by' := cs, keys := ks, twice := if twF [] bl = -1 then twF [] kl else twF [] bl } := by
    unfold q2
    rw [hq2, o3, hq1]
    simp [adv, ps0]
  rw [o3, hq1] at k2
  rw [hq1] at o2
  rw [hq2'] at s2
  obtain ⟨fs, segs, fl, f1, f2, f3⟩ := funR_ok hF (s := wantS toks wShow (q2 toks len ps0)) h3
  have hq3 : q3 toks len ps0 = { adv ps0 ((bh ++ bl).length + 1 + kl.length + 1 + fl.length) with by' := cs, keys := ks, funcs := fs, many := manyG 0 (-1) segs, twice := if twF [] bl = -1 then twF [] kl else twF [] bl, arg := argG (-1) segs } := by
    unfold q3
    rw [f3, s3, hq2']
    simp [adv, ps0]
  rw [s3, hq2'] at f2
  have A3 : At toks 0 ((bh ++ bl) ++ ([o] ++ (kl ++ ([sh] ++ fl)))) := by
    refine hat.append (At.append (by simpa [adv, ps0] using o2) (At.append (by simpa [adv, ps0] using k2) (At.append ?_ ?_)))
    · simpa [adv, ps0, Nat.add_assoc] using s2
    · simpa [adv, ps0, Nat.add_assoc] using f2
  have A3l : ((bh ++ bl) ++ ([o] ++ (kl ++ ([sh] ++ fl)))).length = (bh ++ bl).length + 1 + kl.length + 1 + fl.length := by simp; omega
  obtain ⟨ht, tp, fr, tl, t1, t2, hq4⟩ : ∃ ht tp fr tl, TopSeg ht tp fr tl ∧ At toks ((bh ++ bl).length + 1 + kl.length + 1 + fl.length) tl ∧ q4 toks len ps0 = { adv ps0 ((bh ++ bl).length + 1 + kl.length + 1 + fl.length + tl.length) with by' := cs, keys := ks, funcs := fs, hasTop := ht, top := tp, frm := fr, many := manyG 0 (-1) segs, twice := if twF [] bl = -1 then twF [] kl else twF [] bl, arg := argG (-1) segs } := by
    unfold q4 at h ⊢
    cases ht : takes toks wTop (q3 toks len ps0)
    · exact ⟨false, 0, 0, [], .none, ⟨_, rfl⟩, by simp only [Bool.false_eq_true, if_false]; rw [hq3]; rfl⟩
    · rw [ht] at h
      simp only [if_true] at h ⊢
      obtain ⟨x, x1, x2, x3⟩ := takes_ok ht
      rw [hq3] at h x1 ⊢
      generalize hN : (bh ++ bl).length + 1 + kl.length + 1 + fl.length = N at *
      have x1' : At toks N [x] := At.one (by simpa [adv, ps0] using x1)
      unfold topS at h ⊢
      cases hu : takes toks wFrom (top1 toks (PS.step { adv ps0 N with by' := cs, keys := ks, funcs := fs, many := manyG 0 (-1) segs, twice := if twF [] bl = -1 then twF [] kl else twF [] bl, arg := argG (-1) segs }))
      · rw [hu] at h
        simp only [Bool.false_eq_true, if_false] at h ⊢
        obtain ⟨y, y1, y2, y3, y4, y5⟩ := num_ok hF (s := { PS.step { adv ps0 N with by' := cs, keys := ks, funcs := fs, many := manyG 0 (-1) segs, twice := if twF [] bl = -1 then twF [] kl else twF [] bl, arg := argG (-1) segs } with hasTop := true }) h
        refine ⟨true, worth y.text, 0, [x, y], .top x y x2 y1, At.append (a := [x]) x1' (by simpa [adv, ps0, PS.step] using y2), ?_⟩
        unfold top1
        rw [y3, y4]
        simp [adv, ps0, PS.step]
      · rw [hu] at h
        simp only [if_true] at h ⊢
        obtain ⟨a, a1, a2, a3⟩ := takes_ok hu
        obtain ⟨y, y1, y2, y3, y4, y5⟩ := num_ok hF (s := { PS.step { adv ps0 N with by' := cs, keys := ks, funcs := fs, many := manyG 0 (-1) segs, twice := if twF [] bl = -1 then twF [] kl else twF [] bl, arg := argG (-1) segs } with hasTop := true }) a3
        obtain ⟨b, b1, b2, b3, b4, b5⟩ := num_ok hF h
        unfold top1 at a1 b2 b3 b4 ⊢
        rw [b3, b4]
        rw [y3] at a1 b2 ⊢
        rw [y4]
        refine ⟨true, worth y.text, worth b.text, [x, y, a, b], .frm x y a b x2 y1 a2 b1, At.append (a := [x]) x1' (At.append (a := [y]) (by simpa [adv, ps0, PS.step] using y2) (At.append (a := [a]) (At.one (by simpa [adv, ps0, PS.step] using a1)) (by simpa [adv, ps0, PS.step] using b2))), ?_⟩
        simp [adv, ps0, PS.step]
  rw [hq4] at hn
  have A4 : At toks 0 (((bh ++ bl) ++ ([o] ++ (kl ++ ([sh] ++ fl)))) ++ tl) := A3.append (by rw [A3l, Nat.zero_add]; exact t2)
  obtain ⟨r, er⟩ := A4
  rw [List.drop_zero] at er
  have hl := congrArg List.length er
  have hr : r = [] := by
    apply List.eq_nil_of_length_eq_zero
    simp only [adv, ps0] at hn
    rw [List.length_append, List.length_append, A3l] at hl
    omega
  subst hr
  refine ⟨⟨cs, ks, fs, ht, tp, fr, bh, bl, o, kl, sh, segs, fl, tl⟩, ⟨by simpa using er, hby, o1, k1, s1, f1, t1⟩, ?_⟩
  rw [hq4, hl]
  simp [adv, ps0, Parts.twice]
  omega
end Pr
end Go.Proofs.YtcoofnhdbejnpaaDoor
/- Plain functions: the plain form out of the tokens; where a word stands among them; how they are cut. -/
namespace Go.Proofs.YtcoofnhdbejnpaaDoor
namespace Pr
open Pq
/-- without noughts ahead -/
def short : Bytes → Bytes
  | [] => []
  | [a] => [a]
  | a :: b :: r => if a == 48 then short (b :: r) else a :: b :: r
def sp (b : Bool) : Bytes := if b then [] else [32]
def glued (b : Bool) (t : Bytes) : Bool := b || t == wOpen || t == wClose || t == wComma
/-- the tokens as one text: b: nothing, or an opening sign, stands ahead -/
def glue (b : Bool) : List Tok → Bytes
  | [] => []
  | x :: r => sp (glued b x.text) ++ (short x.text ++ glue (x.text == wOpen) r)
theorem numTok_short {x : Tok} (h : NTok x) : short x.text = numTxt (worth x.text) := by
  have h1 := h.len; have h2 := h.dig; have h3 := h.ne
  have dg : ∀ c : UInt8, isDig c = true → 48 ≤ c.toNat ∧ c.toNat ≤ 57 := by
    intro c hc
    simp only [isDig, Bool.and_eq_true, decide_eq_true_eq] at hc
    omega
  match ht : x.text with
  | [] => exact absurd ht h3
  | [a] =>
    rw [ht] at h2
    have ha := dg a (h2 a (by simp))
    have e : worth [a] = (a.toNat : Int) - 48 := by simp [worth]
    unfold numTxt
    rw [e, if_pos (by omega)]
    show [a] = [UInt8.ofNat (48 + ((a.toNat : Int) - 48).toNat)]
    congr 1
    apply UInt8.toNat_inj.1
    simp; omega
  | [a, b] =>
    rw [ht] at h2
    have ha := dg a (h2 a (by simp))
    have hb := dg b (h2 b (by simp))
    have e : worth [a, b] = ((a.toNat : Int) - 48) * 10 + ((b.toNat : Int) - 48) := by simp [worth]
    unfold numTxt
    rw [e]
    by_cases h0 : a = 48
    · subst h0
      rw [if_pos (by simp; omega), show short [48, b] = [b] from rfl]
      congr 1
      apply UInt8.toNat_inj.1
      simp; omega
    · have h0' : a.toNat ≠ 48 := fun e => h0 (UInt8.toNat_inj.1 (by simpa using e))
      rw [if_neg (by omega)]
      have es : short [a, b] = [a, b] := by simp [short, h0]
      rw [es]
      congr 1
      · apply UInt8.toNat_inj.1; simp; omega
      · congr 1; apply UInt8.toNat_inj.1; simp; omega
  | a :: b :: c :: r => rw [ht] at h1; simp at h1
def heads : List Bytes := [wBy, wOrder, wShow, wTop, wFrom]
/-- neither a head word nor a sign -/
structure Inner (x : Tok) : Prop where
  head : x.text ∉ heads
theorem Inner.ne {x : Tok} (h : Inner x) {w : Bytes} (hw : w ∈ heads) : (x.text == w) = false := by
  simp only [beq_eq_false_iff_ne]; exact fun e => h.head (e ▸ hw)
structure Word (x : Tok) : Prop where
  opn : (x.text == wOpen) = false
  cls : (x.text == wClose) = false
  com : (x.text == wComma) = false
theorem Inner.of {x : Tok} {t : Bytes} (h : x.text = t) (ht : t ∉ heads) : Inner x := ⟨by rw [h]; exact ht⟩
theorem Word.of {x : Tok} {t : Bytes} (h : x.text = t) (h1 : (t == wOpen) = false) (h2 : (t == wClose) = false) (h3 : (t == wComma) = false) : Word x := ⟨by rw [h]; exact h1, by rw [h]; exact h2, by rw [h]; exact h3⟩
theorem NTok.numT {x : Tok} (h : NTok x) : numT x.text = true := by
  have h2 := h.dig; have h3 := h.ne
  cases ht : x.text with
  | nil => exact absurd ht h3
  | cons a r => rw [ht] at h2; exact h2 a (by simp)
theorem NTok.not {x : Tok} (h : NTok x) {t : Bytes} (ht : Pr.numT t = false) : x.text ≠ t := by
  intro e; have := h.numT; rw [e, ht] at this; cases this
theorem NTok.inner {x : Tok} (h : NTok x) : Inner x := ⟨by
  simp only [heads, List.mem_cons, List.not_mem_nil, or_false, not_or]
  exact ⟨h.not (by decide), h.not (by decide), h.not (by decide), h.not (by decide), h.not (by decide)⟩⟩
theorem NTok.word {x : Tok} (h : NTok x) : Word x := ⟨by simpa using h.not (t := wOpen) (by decide), by simpa using h.not (t := wClose) (by decide), by simpa using h.not (t := wComma) (by decide)⟩
theorem glue_word {x : Tok} (h : Word x) (b : Bool) (r : List Tok) : glue b (x :: r) = sp b ++ (short x.text ++ glue false r) := by
  simp only [glue, glued, h.opn, h.cls, h.com, Bool.or_false]
theorem glue_const {x : Tok} {t : Bytes} (e : x.text = t) (h1 : (t == wOpen) = false) (h2 : (t == wClose) = false) (h3 : (t == wComma) = false) (h4 : short t = t) (b : Bool) (r : List Tok) : glue b (x :: r) = sp b ++ (t ++ glue false r) := by
  rw [glue_word (Word.of e h1 h2 h3), e, h4]
theorem glue_num {x : Tok} (h : NTok x) (b : Bool) (r : List Tok) : glue b (x :: r) = sp b ++ (numTxt (worth x.text) ++ glue false r) := by
  rw [glue_word h.word, numTok_short h]
theorem glue_open {x : Tok} (e : x.text = wOpen) (b : Bool) (r : List Tok) : glue b (x :: r) = wOpen ++ glue true r := by
  simp [glue, glued, e, sp, short, wOpen]
theorem glue_close {x : Tok} (e : x.text = wClose) (b : Bool) (r : List Tok) : glue b (x :: r) = wClose ++ glue false r := by
  simp [glue, glued, e, sp, short, wClose, wOpen]
theorem glue_comma {x : Tok} (e : x.text = wComma) (b : Bool) (r : List Tok) : glue b (x :: r) = wComma ++ glue false r := by
  simp [glue, glued, e, sp, short, wClose, wOpen, wComma]
theorem kind_ok : ∀ k, k < 12 → kindTxt k ∉ heads ∧ (kindTxt k == wOpen) = false ∧ (kindTxt k == wClose) = false ∧ (kindTxt k == wComma) = false ∧ short (kindTxt k) = kindTxt k := by decide
theorem col_ok : ∀ k, k < 3 → colTxt k ∉ heads ∧ (colTxt k == wOpen) = false ∧ (colTxt k == wClose) = false ∧ (colTxt k == wComma) = false ∧ short (colTxt k) = colTxt k := by decide
theorem glue_kind {x : Tok} {k : Nat} (hk : k < 12) (e : x.text = kindTxt k) (b : Bool) (r : List Tok) : glue b (x :: r) = sp b ++ (kindTxt k ++ glue false r) := glue_const e (kind_ok k hk).2.1 (kind_ok k hk).2.2.1 (kind_ok k hk).2.2.2.1 (kind_ok k hk).2.2.2.2 b r
theorem glue_col {x : Tok} {k : Nat} (hk : k < 3) (e : x.text = colTxt k) (b : Bool) (r : List Tok) : glue b (x :: r) = sp b ++ (colTxt k ++ glue false r) := glue_const e (col_ok k hk).2.1 (col_ok k hk).2.2.1 (col_ok k hk).2.2.2.1 (col_ok k hk).2.2.2.2 b r
/-! edges, frames, functions -/
theorem edge_glue {e : Edge} {l : List Tok} (h : EdgeSeg e l) (b : Bool) (r : List Tok) : glue b (l ++ r) = sp b ++ (edgeTxt e ++ glue false r) := by
  induction e, l, h using EdgeSeg_ind with
  | start x hx => exact glue_const hx (by decide) (by decide) (by decide) (by decide) b r
  | endd x hx => exact glue_const hx (by decide) (by decide) (by decide) (by decide) b r
  | here x hx => exact glue_const hx (by decide) (by decide) (by decide) (by decide) b r
  | back x y hx hy =>
    show glue b (x :: y :: r) = _
    rw [glue_num hx, glue_const hy (by decide) (by decide) (by decide) (by decide)]
    simp [edgeTxt, sp]
  | on x y hx hy =>
    show glue b (x :: y :: r) = _
    rw [glue_num hx, glue_const hy (by decide) (by decide) (by decide) (by decide)]
    simp [edgeTxt, sp]
theorem edge_in {e : Edge} {l : List Tok} (h : EdgeSeg e l) : ∀ x ∈ l, Inner x ∧ Word x := by
  induction e, l, h using EdgeSeg_ind with
  | start x hx => intro y hy; cases List.mem_singleton.1 hy; exact ⟨.of hx (by decide), .of hx (by decide) (by decide) (by decide)⟩
  | endd x hx => intro y hy; cases List.mem_singleton.1 hy; exact ⟨.of hx (by decide), .of hx (by decide) (by decide) (by decide)⟩
  | here x hx => intro y hy; cases List.mem_singleton.1 hy; exact ⟨.of hx (by decide), .of hx (by decide) (by decide) (by decide)⟩
  | back x y hx hy =>
    intro z hz
    simp only [List.mem_cons, List.not_mem_nil, or_false] at hz
    rcases hz with rfl | rfl
    · exact ⟨hx.inner, hx.word⟩
    · exact ⟨.of hy (by decide), .of hy (by decide) (by decide) (by decide)⟩
  | on x y hx hy =>
    intro z hz
    simp only [List.mem_cons, List.not_mem_nil, or_false] at hz
    rcases hz with rfl | rfl
    · exact ⟨hx.inner, hx.word⟩
    · exact ⟨.of hy (by decide), .of hy (by decide) (by decide) (by decide)⟩
theorem frame_glue {f : Frame} {l : List Tok} (h : FrameSeg f l) (b : Bool) (r : List Tok) : glue b (l ++ r) = sp b ++ (frameTxt f ++ glue false r) := by
  induction f, l, h using FrameSeg_ind with
  | all x hx => exact glue_const hx (by decide) (by decide) (by decide) (by decide) b r
  | peers x hx => exact glue_const hx (by decide) (by decide) (by decide) (by decide) b r
  | near x y hx hy =>
    show glue b (x :: y :: r) = _
    rw [glue_const hx (by decide) (by decide) (by decide) (by decide), glue_num hy]
    simp [frameTxt, sp]
  | edges a c l m x ha hx hc =>
    rw [List.append_assoc, List.cons_append, edge_glue ha, glue_const hx (by decide) (by decide) (by decide) (by decide), edge_glue hc]
    simp [frameTxt, sp]
theorem frame_in {f : Frame} {l : List Tok} (h : FrameSeg f l) : ∀ x ∈ l, Inner x ∧ Word x := by
  induction f, l, h using FrameSeg_ind with
  | all x hx => intro y hy; cases List.mem_singleton.1 hy; exact ⟨.of hx (by decide), .of hx (by decide) (by decide) (by decide)⟩
  | peers x hx => intro y hy; cases List.mem_singleton.1 hy; exact ⟨.of hx (by decide), .of hx (by decide) (by decide) (by decide)⟩
  | near x y hx hy =>
    intro z hz
    simp only [List.mem_cons, List.not_mem_nil, or_false] at hz
    rcases hz with rfl | rfl
    · exact ⟨.of hx (by decide), .of hx (by decide) (by decide) (by decide)⟩
    · exact ⟨hy.inner, hy.word⟩
  | edges a c l m x ha hx hc =>
    intro z hz
    simp only [List.mem_append, List.mem_cons] at hz
    rcases hz with hz | rfl | hz
    · exact edge_in ha z hz
    · exact ⟨.of hx (by decide), .of hx (by decide) (by decide) (by decide)⟩
    · exact edge_in hc z hz
theorem fn_glue {f : Fn} {l : List Tok} (h : FnSeg f l) (b : Bool) (r : List Tok) : glue b (l ++ r) = sp b ++ (fnTxt f ++ glue false r) := by
  induction f, l, h using FnSeg_ind with
  | word k x hk hx =>
    show glue b (x :: r) = _
    rw [glue_kind (by omega) hx]; simp [fnTxt, hk]
  | tile x a y c hx ha hy hc =>
    show glue b (x :: a :: y :: c :: r) = _
    rw [glue_kind (by omega) hx, glue_open ha, glue_num hy, glue_close hc]; simp [fnTxt, sp]
  | lag k c x a p q y d hk hk6 hc hx ha hp hq hy hd =>
    show glue b (x :: a :: p :: q :: y :: d :: r) = _
    rw [glue_kind (by omega) hx, glue_open ha, glue_col hc hp, glue_comma hq, glue_num hy, glue_close hd]
    have e1 : ¬ k < 3 := by omega
    have e2 : ¬ k = 3 := by omega
    simp [fnTxt, sp, e1, e2, hk6]
  | over k c fr x a p q d m hk hk12 hc hx ha hp hq hf hd =>
    show glue b (x :: a :: p :: q :: ((m ++ [d]) ++ r)) = _
    rw [List.append_assoc, glue_kind (by omega) hx, glue_open ha, glue_col hc hp, glue_comma hq, frame_glue hf, List.singleton_append, glue_close hd]
    have e1 : ¬ k < 3 := by omega
    have e2 : ¬ k = 3 := by omega
    have e3 : ¬ k < 6 := by omega
    simp [fnTxt, sp, e1, e2, e3]
theorem fn_in {f : Fn} {l : List Tok} (h : FnSeg f l) : ∀ x ∈ l, Inner x := by
  have hk : ∀ {k : Nat} {x : Tok}, k < 12 → x.text = kindTxt k → Inner x := fun hk e => .of e (kind_ok _ hk).1
  have hc : ∀ {k : Nat} {x : Tok}, k < 3 → x.text = colTxt k → Inner x := fun hk e => .of e (col_ok _ hk).1
  intro z hz
  induction f, l, h using FnSeg_ind with
  | word k x h1 hx => cases List.mem_singleton.1 hz; exact hk (by omega) hx
  | tile x a y c hx ha hy h1 =>
    simp only [List.mem_cons, List.not_mem_nil, or_false] at hz
    rcases hz with rfl | rfl | rfl | rfl
    · exact hk (by omega) hx
    · exact .of ha (by decide)
    · exact hy.inner
    · exact .of h1 (by decide)
  | lag k c x a p q y d h1 h2 h3 hx ha hp hq hy hd =>
    simp only [List.mem_cons, List.not_mem_nil, or_false] at hz
    rcases hz with rfl | rfl | rfl | rfl | rfl | rfl
    · exact hk (by omega) hx
    · exact .of ha (by decide)
    · exact hc h3 hp
    · exact .of hq (by decide)
    · exact hy.inner
    · exact .of hd (by decide)
  | over k c fr x a p q d m h1 h2 h3 hx ha hp hq hf hd =>
    simp only [List.mem_cons, List.mem_append, List.not_mem_nil, or_false] at hz
    rcases hz with rfl | rfl | rfl | rfl | hz | rfl
    · exact hk (by omega) hx
    · exact .of ha (by decide)
    · exact hc h3 hp
    · exact .of hq (by decide)
    · exact (frame_in hf z hz).1
    · exact .of hd (by decide)
/-! lists -/
theorem ColsSeg_cons {cs : List Nat} {l : List Tok} (h : ColsSeg cs l) : ∃ d ds, cs = d :: ds := h (fun cs _ => ∃ d ds, cs = d :: ds) (fun _ _ _ _ => ⟨_, _, rfl⟩) (fun _ _ _ _ _ _ _ _ _ => ⟨_, _, rfl⟩)
theorem KeysSeg_cons {ks : List (Nat × Bool)} {l : List Tok} (h : KeysSeg ks l) : ∃ d ds, ks = d :: ds := h (fun ks _ => ∃ d ds, ks = d :: ds) (fun _ _ _ => ⟨_, _, rfl⟩) (fun _ _ _ _ _ _ _ _ => ⟨_, _, rfl⟩)
theorem FunsSeg_cons {fs : List Fn} {segs : List (List Tok)} {l : List Tok} (h : FunsSeg fs segs l) : ∃ d ds, fs = d :: ds := h (fun fs _ _ => ∃ d ds, fs = d :: ds) (fun _ _ _ => ⟨_, _, rfl⟩) (fun _ _ _ _ _ _ _ _ _ => ⟨_, _, rfl⟩)
theorem cols_glue {cs : List Nat} {l : List Tok} (h : ColsSeg cs l) : ∀ (b : Bool) (r : List Tok), glue b (l ++ r) = sp b ++ (colsTxt cs ++ glue false r) := by
  induction cs, l, h using ColsSeg_ind with
  | one c x hc hx => intro b r; show glue b (x :: r) = _; rw [glue_col hc hx]; rfl
  | more c x y cs l hc hx hy h ih =>
    intro b r
    show glue b (x :: y :: (l ++ r)) = _
    rw [glue_col hc hx, glue_comma hy, ih]
    obtain ⟨d, ds, rfl⟩ := ColsSeg_cons h
    simp [colsTxt, joinTxt, sp, wComma]
theorem cols_in {cs : List Nat} {l : List Tok} (h : ColsSeg cs l) : ∀ x ∈ l, Inner x := by
  induction cs, l, h using ColsSeg_ind with
  | one c x hc hx => intro z hz; cases List.mem_singleton.1 hz; exact .of hx (col_ok _ hc).1
  | more c x y cs l hc hx hy h ih =>
    intro z hz
    simp only [List.mem_cons] at hz
    rcases hz with rfl | rfl | hz
    · exact .of hx (col_ok _ hc).1
    · exact .of hy (by decide)
    · exact ih z hz
theorem key_glue {k : Nat × Bool} {l : List Tok} (h : KeySeg k l) (b : Bool) (r : List Tok) : glue b (l ++ r) = sp b ++ (keyTxt k ++ glue false r) := by
  induction k, l, h using KeySeg_ind with
  | asc c x hc hx => show glue b (x :: r) = _; rw [glue_col hc hx]; rfl
  | desc c x y hc hx hy =>
    show glue b (x :: y :: r) = _
    rw [glue_col hc hx, glue_const hy (by decide) (by decide) (by decide) (by decide)]
    simp [keyTxt, sp]
theorem key_in {k : Nat × Bool} {l : List Tok} (h : KeySeg k l) : ∀ x ∈ l, Inner x := by
  intro z hz
  induction k, l, h using KeySeg_ind with
  | asc c x hc hx => cases List.mem_singleton.1 hz; exact .of hx (col_ok _ hc).1
  | desc c x y hc hx hy =>
    simp only [List.mem_cons, List.not_mem_nil, or_false] at hz
    rcases hz with rfl | rfl
    · exact .of hx (col_ok _ hc).1
    · exact .of hy (by decide)
theorem keys_glue {ks : List (Nat × Bool)} {l : List Tok} (h : KeysSeg ks l) : ∀ (b : Bool) (r : List Tok), glue b (l ++ r) = sp b ++ (keysTxt ks ++ glue false r) := by
  induction ks, l, h using KeysSeg_ind with
  | one k l hk => intro b r; rw [key_glue hk]; rfl
  | more k l y ks m hk hy h ih =>
    intro b r
    rw [List.append_assoc, List.cons_append, key_glue hk, glue_comma hy, ih]
    obtain ⟨d, ds, rfl⟩ := KeysSeg_cons h
    simp [keysTxt, joinTxt, sp, wComma]
theorem keys_in {ks : List (Nat × Bool)} {l : List Tok} (h : KeysSeg ks l) : ∀ x ∈ l, Inner x := by
  induction ks, l, h using KeysSeg_ind with
  | one k l hk => exact key_in hk
  | more k l y ks m hk hy h ih =>
    intro z hz
    simp only [List.mem_append, List.mem_cons] at hz
    rcases hz with hz | rfl | hz
    · exact key_in hk z hz
    · exact .of hy (by decide)
    · exact ih z hz
theorem funs_glue {fs : List Fn} {segs : List (List Tok)} {l : List Tok} (h : FunsSeg fs segs l) : ∀ (b : Bool) (r : List Tok), glue b (l ++ r) = sp b ++ (fnsTxt fs ++ glue false r) := by
  induction fs, segs, l, h using FunsSeg_ind with
  | one f l hf => intro b r; rw [fn_glue hf]; rfl
  | more f l y fs segs m hf hy h ih =>
    intro b r
    rw [List.append_assoc, List.cons_append, fn_glue hf, glue_comma hy, ih]
    obtain ⟨d, ds, rfl⟩ := FunsSeg_cons h
    simp [fnsTxt, joinTxt, sp, wComma]
theorem funs_in {fs : List Fn} {segs : List (List Tok)} {l : List Tok} (h : FunsSeg fs segs l) : ∀ x ∈ l, Inner x := by
  induction fs, segs, l, h using FunsSeg_ind with
  | one f l hf => exact fn_in hf
  | more f l y fs segs m hf hy h ih =>
    intro z hz
    simp only [List.mem_append, List.mem_cons] at hz
    rcases hz with hz | rfl | hz
    · exact fn_in hf z hz
    · exact .of hy (by decide)
    · exact ih z hz
end Pr
end Go.Proofs.YtcoofnhdbejnpaaDoor
/- Plain functions: the whole query's tokens: the plain form, the places of the words, the cut. -/
namespace Go.Proofs.YtcoofnhdbejnpaaDoor
namespace Pr
open Pq
/-! where a word stands -/
def findT (t : Bytes) (l : List Tok) : Nat := l.findIdx (fun x => x.text == t)
theorem findT_skip {t : Bytes} {a b : List Tok} (h : ∀ x ∈ a, (x.text == t) = false) : findT t (a ++ b) = a.length + findT t b := by
  induction a with
  | nil => simp
  | cons x a ih =>
    have hx := h x (by simp)
    have := ih (fun y hy => h y (by simp [hy]))
    unfold findT at *
    rw [List.cons_append, List.findIdx_cons, hx]
    simp only [cond_false, List.length_cons, this]; omega
theorem findT_hit {t : Bytes} {x : Tok} {b : List Tok} (h : x.text = t) : findT t (x :: b) = 0 := by
  unfold findT; rw [List.findIdx_cons]; simp [h]
theorem findT_miss {t : Bytes} {x : Tok} {b : List Tok} (h : (x.text == t) = false) : findT t (x :: b) = 1 + findT t b := by
  unfold findT; rw [List.findIdx_cons]; simp [h]; omega
theorem findT_nil (t : Bytes) : findT t [] = 0 := rfl
theorem mem_heads : wBy ∈ heads ∧ wOrder ∈ heads ∧ wShow ∈ heads ∧ wTop ∈ heads ∧ wFrom ∈ heads := by decide
/-- the tokens' number ahead of order, of show, and of what is behind the FUNCs -/
def Parts.nO (P : Parts) : Nat := P.bh.length + P.bl.length
def Parts.nS (P : Parts) : Nat := P.nO + 1 + P.kl.length
def Parts.nT (P : Parts) : Nat := P.nS + 1 + P.fl.length
theorem PartsOk.by_in {toks : List Tok} {P : Parts} (h : PartsOk toks P) {t : Bytes} (ht : t ∈ heads) (hn : wBy ≠ t) : (∀ x ∈ P.bh, (x.text == t) = false) ∧ ∀ x ∈ P.bl, (x.text == t) = false := by
  rcases h.by' with ⟨h1, h2, _⟩ | ⟨x, h1, h2, h3⟩
  · rw [h1, h2]; exact ⟨(fun _ q => by cases q), (fun _ q => by cases q)⟩
  · rw [h1]
    refine ⟨fun y hy => ?_, fun y hy => (cols_in h3 y hy).ne ht⟩
    cases List.mem_singleton.1 hy
    rw [h2]; simpa using hn
theorem PartsOk.order {toks : List Tok} {P : Parts} (h : PartsOk toks P) : findT wOrder toks = P.nO := by
  have hb := h.by_in mem_heads.2.1 (by decide)
  rw [h.toks, findT_skip hb.1, findT_skip hb.2, findT_hit h.o]; rfl
theorem PartsOk.show' {toks : List Tok} {P : Parts} (h : PartsOk toks P) : findT wShow toks = P.nS := by
  have hb := h.by_in mem_heads.2.2.1 (by decide)
  rw [h.toks, findT_skip hb.1, findT_skip hb.2, findT_miss (by rw [h.o]; decide), findT_skip (fun x hx => (keys_in h.keys x hx).ne mem_heads.2.2.1), findT_hit h.sh]
  simp only [Parts.nS, Parts.nO]; omega
theorem PartsOk.tail {toks : List Tok} {P : Parts} (h : PartsOk toks P) {t : Bytes} (ht : t = wTop ∨ t = wFrom) : findT t toks = P.nT + findT t P.tl := by
  have hm : t ∈ heads := by rcases ht with rfl | rfl <;> decide
  have hb := h.by_in hm (by rcases ht with rfl | rfl <;> decide)
  rw [h.toks, findT_skip hb.1, findT_skip hb.2, findT_miss (by rw [h.o]; rcases ht with rfl | rfl <;> decide), findT_skip (fun x hx => (keys_in h.keys x hx).ne hm), findT_miss (by rw [h.sh]; rcases ht with rfl | rfl <;> decide), findT_skip (fun x hx => (funs_in h.funs x hx).ne hm)]
  simp only [Parts.nT, Parts.nS, Parts.nO]; omega
theorem PartsOk.len {toks : List Tok} {P : Parts} (h : PartsOk toks P) : toks.length = P.nT + P.tl.length := by
  rw [h.toks]; simp only [Parts.nT, Parts.nS, Parts.nO, List.length_append, List.length_cons]; omega
theorem tail_top {ht : Bool} {tp fr : Int} {tl : List Tok} (h : TopSeg ht tp fr tl) : findT wTop tl = 0 := by
  induction ht, tp, fr, tl, h using TopSeg_ind with
  | none => rfl
  | top x y hx hy => exact findT_hit hx
  | frm x y a b hx hy ha hb => exact findT_hit hx
theorem cols_ne {cs : List Nat} {l : List Tok} (h : ColsSeg cs l) : cs.length ≠ 0 := by induction cs, l, h using ColsSeg_ind <;> simp
theorem PartsOk.top' {toks : List Tok} {P : Parts} (h : PartsOk toks P) : findT wTop toks = P.nT := by
  rw [h.tail (.inl rfl), tail_top h.top]; rfl
theorem tail_from {ht : Bool} {tp fr : Int} {tl : List Tok} (h : TopSeg ht tp fr tl) : findT wFrom tl = if tl.length ≤ 2 then tl.length else 2 := by
  induction ht, tp, fr, tl, h using TopSeg_ind with
  | none => rfl
  | top x y hx hy => rw [findT_miss (by rw [hx]; decide), findT_miss (hy.inner.ne mem_heads.2.2.2.2)]; rfl
  | frm x y a b hx hy ha hb => rw [findT_miss (by rw [hx]; decide), findT_miss (hy.inner.ne mem_heads.2.2.2.2), findT_hit ha]; rfl
theorem tail_cases {ht : Bool} {tp fr : Int} {tl : List Tok} (h : TopSeg ht tp fr tl) : tl.length = 0 ∨ tl.length = 2 ∨ tl.length = 4 := by
  induction ht, tp, fr, tl, h using TopSeg_ind <;> simp
theorem PartsOk.from' {toks : List Tok} {P : Parts} (h : PartsOk toks P) : findT wFrom toks = if P.tl.length ≤ 2 then toks.length else P.nT + 2 := by
  rw [h.tail (.inr rfl), tail_from h.top, h.len]; split <;> rfl
/-! the plain form -/
theorem glue_order {x : Tok} (e : x.text = wOrder) (b : Bool) (r : List Tok) : glue b (x :: r) = sp b ++ (wOrder ++ glue false r) := glue_const e (by decide) (by decide) (by decide) (by decide) b r
theorem glue_show {x : Tok} (e : x.text = wShow) (b : Bool) (r : List Tok) : glue b (x :: r) = sp b ++ (wShow ++ glue false r) := glue_const e (by decide) (by decide) (by decide) (by decide) b r
theorem glue_by {x : Tok} (e : x.text = wBy) (b : Bool) (r : List Tok) : glue b (x :: r) = sp b ++ (wBy ++ glue false r) := glue_const e (by decide) (by decide) (by decide) (by decide) b r
theorem glue_top {x : Tok} (e : x.text = wTop) (b : Bool) (r : List Tok) : glue b (x :: r) = sp b ++ (wTop ++ glue false r) := glue_const e (by decide) (by decide) (by decide) (by decide) b r
theorem glue_from {x : Tok} (e : x.text = wFrom) (b : Bool) (r : List Tok) : glue b (x :: r) = sp b ++ (wFrom ++ glue false r) := glue_const e (by decide) (by decide) (by decide) (by decide) b r
theorem glue_head {toks : List Tok} {P : Parts} (h : PartsOk toks P) (r : List Tok) : glue true (P.bh ++ (P.bl ++ P.o :: (P.kl ++ P.sh :: (P.fl ++ r)))) = byTxt P.cs ++ (wOrder ++ 32 :: keysTxt P.ks) ++ (32 :: wShow ++ 32 :: fnsTxt P.fs) ++ glue false r := by
  rcases h.by' with ⟨h1, h2, h3⟩ | ⟨x, h1, h2, h3⟩
  · rw [h1, h2, h3]
    simp only [List.nil_append]
    rw [glue_order h.o, keys_glue h.keys, glue_show h.sh, funs_glue h.funs]
    simp [sp, byTxt]
  · have hne := cols_ne h3
    rw [h1, List.singleton_append, glue_by h2, cols_glue h3, glue_order h.o, keys_glue h.keys, glue_show h.sh, funs_glue h.funs]
    simp [sp, byTxt, hne]
/-- the end of what the plain form tells -/
def Parts.endd (P : Parts) (toks : List Tok) : Nat := if P.frm = 0 then findT wFrom toks else toks.length
theorem tail_glue {ht : Bool} {tp fr : Int} {tl : List Tok} (h : TopSeg ht tp fr tl) (hg : 0 ≤ fr) : glue false (tl.take (if fr = 0 then (if tl.length ≤ 2 then tl.length else 2) else tl.length)) = (if ht then 32 :: wTop ++ 32 :: numTxt tp else []) ++ (if 0 < fr then 32 :: wFrom ++ 32 :: numTxt fr else []) := by
  induction ht, tp, fr, tl, h using TopSeg_ind with
  | none => rfl
  | top x y hx hy =>
    show glue false [x, y] = _
    rw [glue_top hx, glue_num hy]; simp [sp, glue]
  | frm x y a b hx hy ha hb =>
    by_cases h0 : worth b.text = 0
    · rw [if_pos h0]
      show glue false [x, y] = _
      rw [glue_top hx, glue_num hy]; simp [sp, glue, h0]
    · rw [if_neg h0]
      show glue false [x, y, a, b] = _
      have h1 : 0 < worth b.text := by omega
      rw [glue_top hx, glue_num hy, glue_from ha, glue_num hb]; simp [sp, glue, h1]
theorem top_frm_nn {ht : Bool} {tp fr : Int} {tl : List Tok} (h : TopSeg ht tp fr tl) : 0 ≤ tp ∧ 0 ≤ fr := by
  induction ht, tp, fr, tl, h using TopSeg_ind with
  | none => exact ⟨by omega, by omega⟩
  | top x y hx hy => exact ⟨(worth_bd 2 _ hy.len hy.dig).1, by omega⟩
  | frm x y a b hx hy ha hb => exact ⟨(worth_bd 2 _ hy.len hy.dig).1, (worth_bd 2 _ hb.len hb.dig).1⟩
theorem plain_glue {toks : List Tok} {P : Parts} (h : PartsOk toks P) (nx : Nat) (fl : Bool) (m t a : Int) : glue true (toks.take (P.endd toks)) = plainTxt ⟨nx, fl, P.cs, P.ks, P.fs, P.hasTop, P.top, P.frm, m, t, a⟩ := by
  have e : toks.take (P.endd toks) = P.bh ++ (P.bl ++ P.o :: (P.kl ++ P.sh :: (P.fl ++ P.tl.take (if P.frm = 0 then (if P.tl.length ≤ 2 then P.tl.length else 2) else P.tl.length)))) := by
    have e1 : P.endd toks = P.nT + (if P.frm = 0 then (if P.tl.length ≤ 2 then P.tl.length else 2) else P.tl.length) := by
      unfold Parts.endd
      rw [h.from', h.len]
      split
      · split <;> rfl
      · rfl
    rw [e1]
    generalize (if P.frm = 0 then (if P.tl.length ≤ 2 then P.tl.length else 2) else P.tl.length) = n
    have e2 : toks = (P.bh ++ (P.bl ++ P.o :: (P.kl ++ P.sh :: P.fl))) ++ P.tl := by rw [h.toks]; simp
    have e3 : (P.bh ++ (P.bl ++ P.o :: (P.kl ++ P.sh :: P.fl))).length = P.nT := by simp [Parts.nT, Parts.nS, Parts.nO]; omega
    rw [e2, ← e3, List.take_length_add_append]
    simp
  rw [e, glue_head h, tail_glue h.top (top_frm_nn h.top).2]
  rfl
/-! the cut of the FUNCs -/
def opens (x : Tok) (o : Int) : Int := (if x.text == wOpen then o + 1 else o) - (if x.text == wClose then 1 else 0)
def splitF (o : Int) (cur : List Tok) : List Tok → List (List Tok)
  | [] => [cur]
  | x :: r => if x.text == wComma && opens x o == 0 then cur :: splitF (opens x o) [] r else splitF (opens x o) (cur ++ [x]) r
theorem splitF_word {x : Tok} (h : Word x) (o : Int) (cur r : List Tok) : splitF o cur (x :: r) = splitF o (cur ++ [x]) r := by
  simp [splitF, opens, h.opn, h.cls, h.com]
theorem splitF_words {l : List Tok} (h : ∀ x ∈ l, Word x) (o : Int) : ∀ (cur r : List Tok), splitF o cur (l ++ r) = splitF o (cur ++ l) r := by
  induction l with
  | nil => intro cur r; simp
  | cons x l ih =>
    intro cur r
    rw [List.cons_append, splitF_word (h x (by simp)), ih (fun y hy => h y (by simp [hy]))]; simp
theorem splitF_open {x : Tok} (h : x.text = wOpen) (o : Int) (cur r : List Tok) : splitF o cur (x :: r) = splitF (o + 1) (cur ++ [x]) r := by
  simp [splitF, opens, h, wOpen, wClose, wComma]
theorem splitF_close {x : Tok} (h : x.text = wClose) (o : Int) (cur r : List Tok) : splitF o cur (x :: r) = splitF (o - 1) (cur ++ [x]) r := by
  simp [splitF, opens, h, wOpen, wClose, wComma]
theorem splitF_comma1 {x : Tok} (h : x.text = wComma) (cur r : List Tok) : splitF 1 cur (x :: r) = splitF 1 (cur ++ [x]) r := by
  simp [splitF, opens, h, wOpen, wClose, wComma]
theorem splitF_comma0 {x : Tok} (h : x.text = wComma) (cur r : List Tok) : splitF 0 cur (x :: r) = cur :: splitF 0 [] r := by
  simp [splitF, opens, h, wOpen, wClose, wComma]
theorem kind_word {x : Tok} {k : Nat} (hk : k < 12) (e : x.text = kindTxt k) : Word x := .of e (kind_ok k hk).2.1 (kind_ok k hk).2.2.1 (kind_ok k hk).2.2.2.1
theorem col_word {x : Tok} {k : Nat} (hk : k < 3) (e : x.text = colTxt k) : Word x := .of e (col_ok k hk).2.1 (col_ok k hk).2.2.1 (col_ok k hk).2.2.2.1
theorem fn_split {f : Fn} {l : List Tok} (h : FnSeg f l) (cur r : List Tok) : splitF 0 cur (l ++ r) = splitF 0 (cur ++ l) r := by
  induction f, l, h using FnSeg_ind with
  | word k x hk hx => exact splitF_word (kind_word (by omega) hx) 0 cur r
  | tile x a y c hx ha hy hc =>
    show splitF 0 cur (x :: a :: y :: c :: r) = _
    rw [splitF_word (kind_word (by omega) hx), splitF_open ha, splitF_word hy.word, splitF_close hc]; simp
  | lag k c x a p q y d hk hk6 hc hx ha hp hq hy hd =>
    show splitF 0 cur (x :: a :: p :: q :: y :: d :: r) = _
    rw [splitF_word (kind_word (by omega) hx), splitF_open ha, splitF_word (col_word hc hp), Int.zero_add, splitF_comma1 hq, splitF_word hy.word, splitF_close hd]; simp
  | over k c fr x a p q d m hk hk12 hc hx ha hp hq hf hd =>
    show splitF 0 cur (x :: a :: p :: q :: ((m ++ [d]) ++ r)) = _
    rw [List.append_assoc, splitF_word (kind_word (by omega) hx), splitF_open ha, splitF_word (col_word hc hp), Int.zero_add, splitF_comma1 hq, splitF_words (fun x hx => (frame_in hf x hx).2), List.singleton_append, splitF_close hd]; simp
theorem funs_split {fs : List Fn} {segs : List (List Tok)} {l : List Tok} (h : FunsSeg fs segs l) : splitF 0 [] l = segs := by
  induction fs, segs, l, h using FunsSeg_ind with
  | one f l hf => have := fn_split hf [] []; simpa [splitF] using this
  | more f l y fs segs m hf hy h ih => rw [fn_split hf, List.nil_append, splitF_comma0 hy, ih]
theorem funs_seg {fs : List Fn} {segs : List (List Tok)} {l : List Tok} (h : FunsSeg fs segs l) : segs.length = fs.length ∧ ∀ i (h1 : i < segs.length) (h2 : i < fs.length), FnSeg fs[i] segs[i] := by
  induction fs, segs, l, h using FunsSeg_ind with
  | one f l hf => exact ⟨rfl, fun i h1 h2 => by simp at h1; subst h1; exact hf⟩
  | more f l y fs segs m hf hy h ih =>
    refine ⟨by simp [ih.1], fun i h1 h2 => ?_⟩
    cases i with
    | zero => exact hf
    | succ i => exact ih.2 i (by simpa using h1) (by simpa using h2)
/-! many and arg -/
def manyF (segs : List (List Tok)) : Int := match segs[4]? with | some l => headAt l | none => -1
theorem manyG_late : ∀ (segs : List (List Tok)) (n : Nat) (m : Int), 4 < n → manyG n m segs = m
  | [], _, _, _ => rfl
  | _ :: r, n, m, h => by rw [manyG, if_neg (by omega)]; exact manyG_late r (n + 1) m (by omega)
theorem manyG_eq (segs : List (List Tok)) : manyG 0 (-1) segs = manyF segs := by
  match segs with
  | [] => rfl
  | [_] => rfl
  | [_, _] => rfl
  | [_, _, _] => rfl
  | [_, _, _, _] => rfl
  | a :: b :: c :: d :: e :: r =>
    show manyG 5 (headAt e) r = headAt e
    exact manyG_late r 5 _ (by omega)
def argF : List (List Tok) → Int
  | [] => -1
  | l :: r => if tile0 l = -1 then argF r else tile0 l
theorem argG_eq : ∀ (segs : List (List Tok)) (a : Int), argG a segs = if a = -1 then argF segs else a
  | [], a => by by_cases h : a = -1 <;> simp [argG, argF, h]
  | l :: r, a => by
    rw [argG, argG_eq r]
    by_cases h : a = -1
    · simp [h, argF]
    · simp [h]
end Pr
end Go.Proofs.YtcoofnhdbejnpaaDoor
/- Plain functions: the pieces of a query's tokens by their places. -/
namespace Go.Proofs.YtcoofnhdbejnpaaDoor
namespace Pr
open Pq
theorem mid_take {α : Type} (a b c : List α) : ((a ++ (b ++ c)).take (a.length + b.length)).drop a.length = b := by
  rw [List.take_length_add_append, List.drop_left, List.take_left]
theorem PartsOk.keysL {toks : List Tok} {P : Parts} (h : PartsOk toks P) : (toks.take P.nS).drop (P.nO + 1) = P.kl := by
  have e : toks = (P.bh ++ (P.bl ++ [P.o])) ++ (P.kl ++ (P.sh :: (P.fl ++ P.tl))) := by rw [h.toks]; simp
  have e2 : (P.bh ++ (P.bl ++ [P.o])).length = P.nO + 1 := by simp [Parts.nO]; omega
  rw [e, ← e2, show P.nS = (P.bh ++ (P.bl ++ [P.o])).length + P.kl.length by rw [e2]; rfl]
  exact mid_take _ _ _
theorem PartsOk.funsL {toks : List Tok} {P : Parts} (h : PartsOk toks P) : (toks.take P.nT).drop (P.nS + 1) = P.fl := by
  have e : toks = (P.bh ++ (P.bl ++ P.o :: (P.kl ++ [P.sh]))) ++ (P.fl ++ P.tl) := by rw [h.toks]; simp
  have e2 : (P.bh ++ (P.bl ++ P.o :: (P.kl ++ [P.sh]))).length = P.nS + 1 := by simp [Parts.nS, Parts.nO]; omega
  rw [e, ← e2, show P.nT = (P.bh ++ (P.bl ++ P.o :: (P.kl ++ [P.sh]))).length + P.fl.length by rw [e2]; rfl]
  exact mid_take _ _ _
theorem PartsOk.byL {toks : List Tok} {P : Parts} (h : PartsOk toks P) (h1 : P.bh.length = 1) : (toks.take P.nO).drop 1 = P.bl := by
  rw [h.toks, show P.nO = P.bh.length + P.bl.length from rfl, ← h1]
  exact mid_take _ _ _
theorem cols_pos {cs : List Nat} {l : List Tok} (h : ColsSeg cs l) : 0 < l.length := by induction cs, l, h using ColsSeg_ind <;> simp
theorem keySeg_pos {k : Nat × Bool} {l : List Tok} (h : KeySeg k l) : 0 < l.length := by induction k, l, h using KeySeg_ind <;> simp
theorem keys_pos {ks : List (Nat × Bool)} {l : List Tok} (h : KeysSeg ks l) : 0 < l.length := by
  induction ks, l, h using KeysSeg_ind with
  | one k l hk => exact keySeg_pos hk
  | more k l y ks m hk hy h => simp; omega
theorem fn_pos {f : Fn} {l : List Tok} (h : FnSeg f l) : 0 < l.length := by
  obtain ⟨x, r, rfl⟩ := fnSeg_head h; simp
theorem funs_pos {fs : List Fn} {segs : List (List Tok)} {l : List Tok} (h : FunsSeg fs segs l) : 0 < l.length := by
  induction fs, segs, l, h using FunsSeg_ind with
  | one f l hf => exact fn_pos hf
  | more f l y fs segs m hf hy h => simp; omega
structure Sizes (toks : List Tok) (P : Parts) : Prop where
  o : P.nO = P.bh.length + P.bl.length
  s : P.nS = P.nO + 1 + P.kl.length
  t : P.nT = P.nS + 1 + P.fl.length
  len : toks.length = P.nT + P.tl.length
  kl : 0 < P.kl.length
  fl : 0 < P.fl.length
  tl : P.tl.length = 0 ∨ P.tl.length = 2 ∨ P.tl.length = 4
  bh : (P.bh.length = 0 ∧ P.bl = []) ∨ (P.bh.length = 1 ∧ 0 < P.bl.length)
theorem PartsOk.sizes {toks : List Tok} {P : Parts} (h : PartsOk toks P) : Sizes toks P := by
  refine ⟨rfl, rfl, rfl, h.len, keys_pos h.keys, funs_pos h.funs, tail_cases h.top, ?_⟩
  rcases h.by' with ⟨h1, h2, _⟩ | ⟨x, h1, h2, h3⟩
  · exact .inl ⟨by rw [h1]; rfl, h2⟩
  · exact .inr ⟨by rw [h1]; rfl, cols_pos h3⟩
theorem PartsOk.first {toks : List Tok} {P : Parts} (h : PartsOk toks P) (h0 : 0 < toks.length) : (toks[0].text == wBy) = decide (P.bh.length = 1) := by
  rcases h.by' with ⟨h1, h2, _⟩ | ⟨x, h1, h2, h3⟩
  · have ht := h.toks
    rw [h1, h2] at ht
    simp only [List.nil_append] at ht
    have e2 : toks[0].text = wOrder := by
      have : toks[0] = P.o := by simp [ht]
      rw [this]; exact h.o
    rw [e2, h1]; rfl
  · have ht := h.toks
    rw [h1] at ht
    have e2 : toks[0].text = wBy := by
      have : toks[0] = x := by simp [ht]
      rw [this]; exact h2
    rw [e2, h1]; rfl
/-- what is told of top -/
def Parts.topV (P : Parts) : Int := if P.tl.length = 0 then -1 else P.top
theorem tail_get {toks : List Tok} {P : Parts} (h : PartsOk toks P) (j : Nat) : toks[P.nT + j]? = P.tl[j]? := by
  have e2 : toks = (P.bh ++ (P.bl ++ P.o :: (P.kl ++ P.sh :: P.fl))) ++ P.tl := by rw [h.toks]; simp
  have e3 : (P.bh ++ (P.bl ++ P.o :: (P.kl ++ P.sh :: P.fl))).length = P.nT := by simp [Parts.nT, Parts.nS, Parts.nO]; omega
  rw [e2, List.getElem?_append_right (by rw [e3]; omega), e3]
  congr 1; omega
theorem topSeg_top {ht : Bool} {tp fr : Int} {tl : List Tok} (h : TopSeg ht tp fr tl) (h0 : tl.length ≠ 0) : ∃ y, tl[1]? = some y ∧ NTok y ∧ worth y.text = tp := by
  induction ht, tp, fr, tl, h using TopSeg_ind with
  | none => simp at h0
  | top x y hx hy => exact ⟨y, rfl, hy, rfl⟩
  | frm x y a b hx hy ha hb => exact ⟨y, rfl, hy, rfl⟩
theorem topSeg_frm {ht : Bool} {tp fr : Int} {tl : List Tok} (h : TopSeg ht tp fr tl) : (tl.length ≤ 2 → fr = 0) ∧ (2 < tl.length → ∃ y, tl[3]? = some y ∧ NTok y ∧ worth y.text = fr) := by
  induction ht, tp, fr, tl, h using TopSeg_ind with
  | none => exact ⟨fun _ => rfl, fun h => by simp at h⟩
  | top x y hx hy => exact ⟨fun _ => rfl, fun h => by simp at h⟩
  | frm x y a b hx hy ha hb => exact ⟨fun h => by simp at h, fun _ => ⟨b, rfl, hb, rfl⟩⟩
theorem PartsOk.topTok {toks : List Tok} {P : Parts} (h : PartsOk toks P) (h0 : P.tl.length ≠ 0) (hl : P.nT + 1 < toks.length) : NTok toks[P.nT + 1] ∧ worth toks[P.nT + 1].text = P.top := by
  obtain ⟨y, e, h1, h2⟩ := topSeg_top h.top h0
  have e1 := tail_get h 1
  rw [e, List.getElem?_eq_getElem hl] at e1
  cases e1
  exact ⟨h1, h2⟩
theorem PartsOk.frmTok {toks : List Tok} {P : Parts} (h : PartsOk toks P) (h0 : 2 < P.tl.length) (hl : P.nT + 3 < toks.length) : NTok toks[P.nT + 3] ∧ worth toks[P.nT + 3].text = P.frm := by
  obtain ⟨y, e, h1, h2⟩ := (topSeg_frm h.top).2 h0
  have e1 := tail_get h 3
  rw [e, List.getElem?_eq_getElem hl] at e1
  cases e1
  exact ⟨h1, h2⟩
theorem splitF_ne (o : Int) (cur : List Tok) (l : List Tok) : splitF o cur l ≠ [] := by
  induction l generalizing o cur with
  | nil => simp [splitF]
  | cons x r ih => rw [splitF]; split; simp; exact ih _ _
end Pr
end Go.Proofs.YtcoofnhdbejnpaaDoor
/- Plain functions: the errors of a query, out of its parts. -/
namespace Go.Proofs.YtcoofnhdbejnpaaDoor
namespace Pr
open Pq
def errE (P : Parts) : Int := if 4 < P.segs.length then 4 else if P.twice ≠ -1 then 5 else if argF P.segs ≠ -1 then 6 else 0
def errP (P : Parts) : Int := if 4 < P.segs.length then manyF P.segs else if P.twice ≠ -1 then P.twice else if argF P.segs ≠ -1 then argF P.segs else 0
theorem seg_ne {fs : List Fn} {segs : List (List Tok)} {l : List Tok} (h : FunsSeg fs segs l) (j : Nat) (hj : j < segs.length) : ∃ x r, segs[j] = x :: r := by
  have hfs := funs_seg h
  exact fnSeg_head (hfs.2 j hj (by rw [← hfs.1]; exact hj))
theorem manyF_iff {toks : List Tok} {P : Parts} (h : PartsOk toks P) : manyF P.segs ≠ -1 ↔ 4 < P.segs.length := by
  unfold manyF
  constructor
  · intro hm
    rcases Nat.lt_or_ge 4 P.segs.length with h4 | h4
    · exact h4
    · rw [List.getElem?_eq_none h4] at hm; exact absurd rfl hm
  · intro h4
    rw [List.getElem?_eq_getElem h4]
    obtain ⟨x, r, e⟩ := seg_ne h.funs 4 h4
    simp only [e, headAt]
    intro e'; omega
theorem fineToks (l : Bytes) : Fine (toksOf l) := ⟨lexFrom_good l 0, lexFrom_num l 0⟩
theorem read_bad {l : Bytes} (h : ¬ 300 < l.length) (hl : (lexFrom l 0).2 = -1) (hb : bad (toksOf l) = true) : readE l = 3 ∧ readP l = (pAt (toksOf l) l.length (run (toksOf l) start 0).2 : Nat) := by
  have hf : (endPS l).failed = true := by rw [← hb, bad_eq (fineToks l).num l.length]; rfl
  have e := readE_ok h hl
  rw [e.1, e.2, pAt_eq (fineToks l).num l.length]
  simp only [faultE, faultP, hf, if_true, true_and]
  rfl
theorem read_good {l : Bytes} (h : ¬ 300 < l.length) (hl : (lexFrom l 0).2 = -1) (hb : bad (toksOf l) = false) : ∃ P, PartsOk (toksOf l) P ∧ readE l = errE P ∧ readP l = errP P ∧ endPS l = ⟨(toksOf l).length, false, P.cs, P.ks, P.fs, P.hasTop, P.top, P.frm, manyF P.segs, P.twice, argF P.segs⟩ := by
  have hf : (endPS l).failed = false := by rw [← hb, bad_eq (fineToks l).num l.length]; rfl
  obtain ⟨P, hP, e⟩ := parse_ok (fineToks l) hf
  have e1 : endPS l = ⟨(toksOf l).length, false, P.cs, P.ks, P.fs, P.hasTop, P.top, P.frm, manyF P.segs, P.twice, argF P.segs⟩ := by
    show queryS _ _ _ = _
    rw [e, manyG_eq, argG_eq]; rfl
  have hm := manyF_iff hP
  refine ⟨P, hP, ?_, ?_, e1⟩
  · rw [(readE_ok h hl).1, e1]
    simp only [faultE, errE, Bool.false_eq_true, if_false]
    by_cases h4 : 4 < P.segs.length
    · rw [if_pos h4, if_pos (hm.2 h4)]
    · rw [if_neg h4, if_neg (fun q => h4 (hm.1 q))]
  · rw [(readE_ok h hl).2, e1]
    simp only [faultP, errP, Bool.false_eq_true, if_false]
    by_cases h4 : 4 < P.segs.length
    · rw [if_pos h4, if_pos (hm.2 h4)]
    · rw [if_neg h4, if_neg (fun q => h4 (hm.1 q))]
/-! twice and arg: a place is none, or it is at least nought -/
theorem twF_nn (seen : List Bytes) (l : List Tok) : twF seen l = -1 ∨ 0 ≤ twF seen l := by
  induction l generalizing seen with
  | nil => exact .inl rfl
  | cons x r ih =>
    rw [twF]; split
    · exact .inr (by omega)
    · exact ih _
theorem tile0_nn (l : List Tok) : tile0 l = -1 ∨ 0 ≤ tile0 l := by
  match l with
  | [] => exact .inl rfl
  | [_] => exact .inl rfl
  | [_, _] => exact .inl rfl
  | x :: _ :: y :: _ => simp only [tile0]; split; exact .inr (by omega); exact .inl rfl
theorem argF_drop (segs : List (List Tok)) (k : Nat) (hk : k < segs.length) : argF (segs.drop k) = if tile0 segs[k] = -1 then argF (segs.drop (k + 1)) else tile0 segs[k] := by
  rw [List.drop_eq_getElem_cons hk, argF]
/-- a FUNC that is a tile has its number as the third token -/
theorem tile_seg {f : Fn} {l : List Tok} (h : FnSeg f l) (h0 : 0 < l.length) (ht : l[0].text = kindTxt 3) : ∃ h2 : 2 < l.length, NTok l[2] ∧ tile0 l = if worth l[2].text = 0 then (l[2].at' : Int) else -1 := by
  have hno : ∀ k, k < 12 → k ≠ 3 → kindTxt k ≠ kindTxt 3 := by decide
  induction f, l, h using FnSeg_ind with
  | word k x hk hx => exact absurd (hx.symm.trans ht) (hno k (by omega) (by omega))
  | tile x a y b hx ha hy hb => exact ⟨by simp, hy, by simp [tile0, hx]⟩
  | lag k c x a p q y b h1 h2 h3 hx => exact absurd (hx.symm.trans ht) (hno k (by omega) (by omega))
  | over k c fr x a p q b m h1 h2 h3 hx => exact absurd (hx.symm.trans ht) (hno k (by omega) (by omega))
theorem tile_not {l : List Tok} (h0 : 0 < l.length) (ht : l[0].text ≠ kindTxt 3) : tile0 l = -1 := by
  cases l with
  | nil => simp at h0
  | cons x r => exact tile0_not ht
end Pr
end Go.Proofs.YtcoofnhdbejnpaaDoor
/- Plain functions: the tokens glued one by one; how long that may grow. -/
namespace Go.Proofs.YtcoofnhdbejnpaaDoor
namespace Pr
open Pq
def gEnd (b : Bool) : List Tok → Bool
  | [] => b
  | x :: r => gEnd (x.text == wOpen) r
theorem glue_snoc (x : Tok) : ∀ (l : List Tok) (b : Bool), glue b (l ++ [x]) = glue b l ++ (sp (glued (gEnd b l) x.text) ++ short x.text)
  | [], b => by simp [glue, gEnd]
  | y :: r, b => by
    rw [List.cons_append, glue, glue, glue_snoc x r, gEnd]
    simp
theorem gEnd_snoc (x : Tok) : ∀ (l : List Tok) (b : Bool), gEnd b (l ++ [x]) = (x.text == wOpen)
  | [], b => rfl
  | y :: r, b => by rw [List.cons_append, gEnd, gEnd_snoc x r]
/-- is the token k glued to what stands ahead of it? -/
def gAt (toks : List Tok) (k : Nat) : Bool := glued (gEnd true (toks.take k)) (tAt toks k)
theorem glue_take (toks : List Tok) (k : Nat) (hk : k < toks.length) : glue true (toks.take (k + 1)) = glue true (toks.take k) ++ (sp (gAt toks k) ++ short toks[k].text) := by
  rw [List.take_succ_eq_append_getElem hk, glue_snoc]
  have e : tAt toks k = toks[k].text := by simp [tAt, hk]
  unfold gAt; rw [e]
theorem gAt_zero (toks : List Tok) : gAt toks 0 = true := by simp [gAt, gEnd, glued]
theorem gAt_succ (toks : List Tok) (k : Nat) (hk : k + 1 < toks.length) : gAt toks (k + 1) = glued (toks[k].text == wOpen) toks[k + 1].text := by
  have e : tAt toks (k + 1) = toks[k + 1].text := by simp [tAt, hk]
  unfold gAt
  rw [e, List.take_succ_eq_append_getElem (by omega), gEnd_snoc]
theorem short_le : ∀ l : Bytes, (short l).length ≤ l.length
  | [] => by simp [short]
  | [a] => by simp [short]
  | a :: b :: r => by
    have := short_le (b :: r)
    rw [short]; split
    · simp at this ⊢; omega
    · simp
theorem glue_len (n : Nat) : ∀ (l : List Tok) (b : Bool), (∀ x ∈ l, x.text.length ≤ n) → (glue b l).length ≤ (n + 1) * l.length
  | [], _, _ => by simp [glue]
  | x :: r, b, h => by
    have ih := glue_len n r (x.text == wOpen) (fun y hy => h y (by simp [hy]))
    have h1 := short_le x.text
    have h2 := h x (by simp)
    have h3 : (sp (glued b x.text)).length ≤ 1 := by unfold sp; split <;> simp
    rw [glue, List.length_append, List.length_append, List.length_cons, Nat.mul_succ]
    omega
theorem lexFrom_txt (l : Bytes) (n : Nat) : ∀ t ∈ (lexFrom l n).1, t.text.length ≤ l.length := by
  induction n using lexFrom_ind (l := l) with
  | case1 n h hb ih => rw [lexFrom_blk h hb]; exact ih
  | case2 n h hb he => rw [lexFrom_bad h (by simpa using hb) he]; intro t ht; cases ht
  | case3 n h hb he ih =>
    rw [lexFrom_tok h (by simpa using hb) (by omega)]
    intro t ht
    rcases List.mem_cons.1 ht with rfl | ht
    · simp only [List.length_drop, List.length_take]; omega
    · exact ih t ht
  | case4 n h => rw [lexFrom_end h]; intro t ht; cases ht
end Pr
end Go.Proofs.YtcoofnhdbejnpaaDoor
