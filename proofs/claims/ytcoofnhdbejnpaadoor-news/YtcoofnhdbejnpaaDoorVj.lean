/- Plain functions: the errors of a query, out of its parts. -/
import Derived.Test.YtcoofnhdbejnpaaDoorVi
namespace Go.Proofs.YtcoofnhdbejnpaaDoor
namespace Pr
open Pq
def errE (P : Parts) : Int := if 4 < P.segs.length then 4 else if P.twice ≠ -1 then 5 else if argF P.segs ≠ -1 then 6 else 0
def errP (P : Parts) : Int := if 4 < P.segs.length then manyF P.segs else if P.twice ≠ -1 then P.twice else if argF P.segs ≠ -1 then argF P.segs else 0
theorem seg_ne {fs : List Fn} {segs : List (List Tok)} {l : List Tok} (h : FunsSeg fs segs l) (j : Nat) (hj : j < segs.length) : ∃ x r, segs[j] = x :: r := by
  have hfs := funs_seg h
  exact fnSeg_head (hfs.2 j hj (by rw [← hfs.1]; exact hj))
theorem manyF_iff {toks : List Tok} {P : Parts} (h : PartsOk toks P) : manyF P.segs ≠ -1 ↔ 4 < P.segs.length := by
  unfold manyF
  constructor
  · intro hm
    rcases Nat.lt_or_ge 4 P.segs.length with h4 | h4
    · exact h4
    · rw [List.getElem?_eq_none h4] at hm; exact absurd rfl hm
  · intro h4
    rw [List.getElem?_eq_getElem h4]
    obtain ⟨x, r, e⟩ := seg_ne h.funs 4 h4
    simp only [e, headAt]
    intro e'; omega
theorem fineToks (l : Bytes) : Fine (toksOf l) := ⟨lexFrom_good l 0, lexFrom_num l 0⟩
theorem read_bad {l : Bytes} (h : ¬ 300 < l.length) (hl : (lexFrom l 0).2 = -1) (hb : bad (toksOf l) = true) : readE l = 3 ∧ readP l = (pAt (toksOf l) l.length (run (toksOf l) start 0).2 : Nat) := by
  have hf : (endPS l).failed = true := by rw [← hb, bad_eq (fineToks l).num l.length]; rfl
  have e := readE_ok h hl
  rw [e.1, e.2, pAt_eq (fineToks l).num l.length]
  simp only [faultE, faultP, hf, if_true, true_and]
  rfl
theorem read_good {l : Bytes} (h : ¬ 300 < l.length) (hl : (lexFrom l 0).2 = -1) (hb : bad (toksOf l) = false) : ∃ P, PartsOk (toksOf l) P ∧ readE l = errE P ∧ readP l = errP P ∧ endPS l = ⟨(toksOf l).length, false, P.cs, P.ks, P.fs, P.hasTop, P.top, P.frm, manyF P.segs, P.twice, argF P.segs⟩ := by
  have hf : (endPS l).failed = false := by rw [← hb, bad_eq (fineToks l).num l.length]; rfl
  obtain ⟨P, hP, e⟩ := parse_ok (fineToks l) hf
  have e1 : endPS l = ⟨(toksOf l).length, false, P.cs, P.ks, P.fs, P.hasTop, P.top, P.frm, manyF P.segs, P.twice, argF P.segs⟩ := by
    show queryS _ _ _ = _
    rw [e, manyG_eq, argG_eq]; rfl
  have hm := manyF_iff hP
  refine ⟨P, hP, ?_, ?_, e1⟩
  · rw [(readE_ok h hl).1, e1]
    simp only [faultE, errE, Bool.false_eq_true, if_false]
    by_cases h4 : 4 < P.segs.length
    · rw [if_pos h4, if_pos (hm.2 h4)]
    · rw [if_neg h4, if_neg (fun q => h4 (hm.1 q))]
  · rw [(readE_ok h hl).2, e1]
    simp only [faultP, errP, Bool.false_eq_true, if_false]
    by_cases h4 : 4 < P.segs.length
    · rw [if_pos h4, if_pos (hm.2 h4)]
    · rw [if_neg h4, if_neg (fun q => h4 (hm.1 q))]
/-! twice and arg: a place is none, or it is at least nought -/
theorem twF_nn (seen : List Bytes) (l : List Tok) : twF seen l = -1 ∨ 0 ≤ twF seen l := by
  induction l generalizing seen with
  | nil => exact .inl rfl
  | cons x r ih =>
    rw [twF]; split
    · exact .inr (by omega)
    · exact ih _
theorem tile0_nn (l : List Tok) : tile0 l = -1 ∨ 0 ≤ tile0 l := by
  match l with
  | [] => exact .inl rfl
  | [_] => exact .inl rfl
  | [_, _] => exact .inl rfl
  | x :: _ :: y :: _ => simp only [tile0]; split; exact .inr (by omega); exact .inl rfl
theorem argF_drop (segs : List (List Tok)) (k : Nat) (hk : k < segs.length) : argF (segs.drop k) = if tile0 segs[k] = -1 then argF (segs.drop (k + 1)) else tile0 segs[k] := by
  rw [List.drop_eq_getElem_cons hk, argF]
/-- a FUNC that is a tile has its number as the third token -/
theorem tile_seg {f : Fn} {l : List Tok} (h : FnSeg f l) (h0 : 0 < l.length) (ht : l[0].text = kindTxt 3) : ∃ h2 : 2 < l.length, NTok l[2] ∧ tile0 l = if worth l[2].text = 0 then (l[2].at' : Int) else -1 := by
  have hno : ∀ k, k < 12 → k ≠ 3 → kindTxt k ≠ kindTxt 3 := by decide
  induction f, l, h using FnSeg_ind with
  | word k x hk hx => exact absurd (hx.symm.trans ht) (hno k (by omega) (by omega))
  | tile x a y b hx ha hy hb => exact ⟨by simp, hy, by simp [tile0, hx]⟩
  | lag k c x a p q y b h1 h2 h3 hx => exact absurd (hx.symm.trans ht) (hno k (by omega) (by omega))
  | over k c fr x a p q b m h1 h2 h3 hx => exact absurd (hx.symm.trans ht) (hno k (by omega) (by omega))
theorem tile_not {l : List Tok} (h0 : 0 < l.length) (ht : l[0].text ≠ kindTxt 3) : tile0 l = -1 := by
  cases l with
  | nil => simp at h0
  | cons x r => exact tile0_not ht
end Pr
end Go.Proofs.YtcoofnhdbejnpaaDoor
