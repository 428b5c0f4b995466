/- Plain functions: what package panesref's token reader answers, and that it is what package queries' answers. -/
import Derived.Test.YtcoofnhdbejnpaaDoorPlainA
namespace Go.Proofs.YtcoofnhdbejnpaaDoor
namespace Pr
open Pq
def jn (a b : UInt8) : Bool := (isDig a && isDig b) || (isLet a && isLet b)
/-- where the row of bytes that belong together and goes on at k ends; in so many steps at most -/
def jFuel (l : Bytes) : Nat → Nat → Nat
  | 0, k => k
  | f + 1, k => if h : k < l.length then (if jn (l[k - 1]'(by omega)) l[k] then jFuel l f (k + 1) else k) else k
def jEnd (l : Bytes) (k : Nat) : Nat := jFuel l (l.length - k) k
theorem jEnd_stop {l : Bytes} {k : Nat} (h : k < l.length) (hj : jn (l[k - 1]'(by omega)) l[k] = false) : jEnd l k = k := by
  unfold jEnd; rw [show l.length - k = (l.length - (k + 1)) + 1 by omega, jFuel, dif_pos h, if_neg (by simp [hj])]
theorem jEnd_step {l : Bytes} {k : Nat} (h : k < l.length) (hj : jn (l[k - 1]'(by omega)) l[k] = true) : jEnd l k = jEnd l (k + 1) := by
  unfold jEnd; rw [show l.length - k = (l.length - (k + 1)) + 1 by omega, jFuel, dif_pos h, if_pos hj]
theorem jEnd_end {l : Bytes} {k : Nat} (h : ¬ k < l.length) : jEnd l k = k := by
  unfold jEnd; rw [show l.length - k = 0 by omega]; rfl
theorem jEnd_ind {l : Bytes} {motive : Nat → Prop} (case1 : ∀ k (h : k < l.length), jn (l[k - 1]'(by omega)) l[k] = true → motive (k + 1) → motive k) (case2 : ∀ k (h : k < l.length), ¬ jn (l[k - 1]'(by omega)) l[k] = true → motive k) (case3 : ∀ k, ¬ k < l.length → motive k) (k : Nat) : motive k := by
  have key : ∀ f k, l.length ≤ f + k → motive k := by
    intro f
    induction f with
    | zero => intro k h; exact case3 k (by omega)
    | succ f ih =>
      intro k hk
      by_cases h : k < l.length
      · by_cases hj : jn (l[k - 1]'(by omega)) l[k] = true
        · exact case1 k h hj (ih (k + 1) (by omega))
        · exact case2 k h hj
      · exact case3 k h
  exact key l.length k (by omega)
theorem jEnd_ge (l : Bytes) (k : Nat) : k ≤ jEnd l k := by
  induction k using jEnd_ind (l := l) with
  | case1 k h hj ih => rw [jEnd_step h hj]; omega
  | case2 k h hj => rw [jEnd_stop h (by simpa using hj)]; omega
  | case3 k h => rw [jEnd_end h]; omega
theorem jEnd_le (l : Bytes) (k : Nat) (hk : k ≤ l.length) : jEnd l k ≤ l.length := by
  induction k using jEnd_ind (l := l) with
  | case1 k h hj ih => rw [jEnd_step h hj]; exact ih h
  | case2 k h hj => rw [jEnd_stop h (by simpa using hj)]; exact hk
  | case3 k h => rw [jEnd_end h]; exact hk
theorem dig_let {c : UInt8} (h : isDig c = true) : isLet c = false := by
  simp only [isDig, Bool.and_eq_true, decide_eq_true_eq] at h
  simp only [isLet, Bool.and_eq_false_iff, decide_eq_false_iff_not]; omega
theorem let_dig {c : UInt8} (h : isLet c = true) : isDig c = false := by
  cases hd : isDig c
  · rfl
  · rw [dig_let hd] at h; cases h
theorem let_sgn {c : UInt8} (h : isLet c = true) : isSgn c = false := by
  simp only [isLet, Bool.and_eq_true, decide_eq_true_eq] at h
  simp only [isSgn, Bool.or_eq_false_iff, beq_eq_false_iff_ne]; omega
theorem sgn_dig {c : UInt8} (h : isSgn c = true) : isDig c = false := by
  cases hd : isDig c
  · rfl
  · rw [isSgn_not_dig hd] at h; cases h
theorem sgn_let {c : UInt8} (h : isSgn c = true) : isLet c = false := by
  cases hd : isLet c
  · rfl
  · rw [let_sgn hd] at h; cases h
theorem jn_dig {a b : UInt8} (h : isDig a = true) : jn a b = isDig b := by simp [jn, h, dig_let h]
theorem jn_let {a b : UInt8} (h : isLet a = true) : jn a b = isLet b := by simp [jn, h, let_dig h]
theorem jn_no {a b : UInt8} (h : isDig a = false) (h2 : isLet a = false) : jn a b = false := by simp [jn, h, h2]
theorem jEnd_row (p : UInt8 → Bool) (hp : ∀ a b, p a = true → jn a b = p b) (l : Bytes) (k : Nat) (hk : 0 < k) (hkl : k ≤ l.length) (h1 : p (l[k - 1]'(by omega)) = true) : jEnd l k = rowEnd p l k := by
  induction k using jEnd_ind (l := l) with
  | case1 k h hj ih =>
    have e : p l[k] = true := by rw [← hp _ _ h1]; exact hj
    rw [jEnd_step h hj, rowEnd_step h e]
    exact ih (by omega) (by omega) (by simpa using e)
  | case2 k h hj =>
    have e : p l[k] = false := by rw [← hp _ _ h1]; simpa using hj
    rw [jEnd_stop h (by simpa using hj), rowEnd_stop h e]
  | case3 k h => rw [jEnd_end h, rowEnd_end (by omega)]
def signs : List Bytes := [[40], [41], [44]]
/-- is the word one of these? -/
def inW (t : Bytes) (ws : List Bytes) : Bool := ws.contains t
def tokT (l : Bytes) (i : Nat) : Bytes := (l.take (jEnd l (i + 1))).drop i
def tokOk (l : Bytes) (i : Nat) (c : UInt8) : Bool := inW (tokT l i) signs || (isDig c && decide ((tokT l i).length ≤ 2)) || (isLet c && decide ((tokT l i).length ≤ 8))
theorem tokT_len (l : Bytes) (i : Nat) (h : i < l.length) : (tokT l i).length = jEnd l (i + 1) - i := by
  have := jEnd_le l (i + 1) h
  unfold tokT; rw [List.length_drop, List.length_take]; omega
theorem tokT_head (l : Bytes) (i : Nat) (h : i < l.length) : (tokT l i).head? = some l[i] := by
  have := jEnd_ge l (i + 1)
  unfold tokT; rw [List.head?_drop, List.getElem?_take_of_lt (by omega), List.getElem?_eq_getElem h]
theorem sgn_mem {c : UInt8} : signs.contains [c] = isSgn c := by
  have e : ∀ n : Nat, n < 256 → (c == UInt8.ofNat n) = ((c.toNat : Int) == (n : Int)) := by
    intro n hn
    rw [Bool.eq_iff_iff]; simp only [beq_iff_eq]
    constructor
    · intro h; rw [h]; simp; omega
    · intro h; apply UInt8.toNat_inj.1; simp; omega
  have e1 := e 40 (by omega); have e2 := e 41 (by omega); have e3 := e 44 (by omega)
  simp only [signs, List.contains_cons, List.contains_nil, isSgn, Bool.or_false]
  have f : ∀ a b : UInt8, ([a] == [b]) = (a == b) := fun a b => by simp [List.cons_beq_cons]
  rw [f, f, f, Bool.or_assoc]
  rw [show (40 : UInt8) = UInt8.ofNat 40 from rfl, show (41 : UInt8) = UInt8.ofNat 41 from rfl, show (44 : UInt8) = UInt8.ofNat 44 from rfl, e1, e2, e3]; rfl
theorem sgn_head {t : Bytes} {c : UInt8} (h : t.head? = some c) (hc : isSgn c = false) : signs.contains t = false := by
  cases t with
  | nil => cases h
  | cons a r =>
    simp at h; subst h
    rw [Bool.eq_false_iff]; intro hm
    rw [List.contains_iff_mem] at hm
    simp only [signs, List.mem_cons, List.not_mem_nil, or_false, List.cons.injEq] at hm
    rcases hm with ⟨rfl, _⟩ | ⟨rfl, _⟩ | ⟨rfl, _⟩ <;> cases hc
theorem tok_ok (l : Bytes) (i : Nat) (h : i < l.length) : tokOk l i l[i] = decide (i < tokEnd l i) ∧ (i < tokEnd l i → tokEnd l i = jEnd l (i + 1)) := by
  have hlen := tokT_len l i h
  have hhd := tokT_head l i h
  have hge := jEnd_ge l (i + 1)
  cases hS : isSgn l[i]
  · have hsc := sgn_head hhd hS
    unfold tokOk inW; rw [hsc, hlen]
    cases hD : isDig l[i]
    · cases hL : isLet l[i]
      · have e : tokEnd l i = i := by unfold tokEnd; rw [dif_pos h]; simp [hS, hD, hL]
        rw [e]; simp
      · have ej : jEnd l (i + 1) = rowEnd isLet l i := by
          rw [rowEnd_step h hL]; exact jEnd_row isLet (fun a b => jn_let) l (i + 1) (by omega) h (by simpa using hL)
        have e : tokEnd l i = if rowEnd isLet l i - i > 8 then i else rowEnd isLet l i := by unfold tokEnd; rw [dif_pos h]; simp [hS, hD, hL]
        rw [e, ej]
        rw [ej] at hge
        by_cases h8 : rowEnd isLet l i - i > 8
        · rw [if_pos h8]; simp; omega
        · rw [if_neg h8]; simp; omega
    · have hL := dig_let hD
      have ej : jEnd l (i + 1) = rowEnd isDig l i := by
        rw [rowEnd_step h hD]; exact jEnd_row isDig (fun a b => jn_dig) l (i + 1) (by omega) h (by simpa using hD)
      have e : tokEnd l i = if rowEnd isDig l i - i > 2 then i else rowEnd isDig l i := by unfold tokEnd; rw [dif_pos h]; simp [hS, hD]
      rw [e, ej, hL]
      rw [ej] at hge
      by_cases h8 : rowEnd isDig l i - i > 2
      · rw [if_pos h8]; simp; omega
      · rw [if_neg h8]; simp; omega
  · have hj : jEnd l (i + 1) = i + 1 := by
      by_cases hl : i + 1 < l.length
      · exact jEnd_stop hl (jn_no (by simpa using sgn_dig hS) (by simpa using sgn_let hS))
      · exact jEnd_end hl
    have e : tokEnd l i = i + 1 := by unfold tokEnd; rw [dif_pos h]; simp [hS]
    have et : tokT l i = [l[i]] := by
      rw [hj] at hlen
      match hq : tokT l i with
      | [] => rw [hq] at hhd; cases hhd
      | [a] => rw [hq] at hhd; simp at hhd; rw [hhd]
      | a :: b :: r => rw [hq] at hlen; simp at hlen
    unfold tokOk inW
    rw [et, sgn_mem, hS, e, hj]; simp
end Pr
end Go.Proofs.YtcoofnhdbejnpaaDoor
