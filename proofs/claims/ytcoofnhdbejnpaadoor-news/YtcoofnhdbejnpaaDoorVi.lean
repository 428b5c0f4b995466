/- Plain functions: the pieces of a query's tokens by their places. -/
import Derived.Test.YtcoofnhdbejnpaaDoorVh
namespace Go.Proofs.YtcoofnhdbejnpaaDoor
namespace Pr
open Pq
theorem mid_take {α : Type} (a b c : List α) : ((a ++ (b ++ c)).take (a.length + b.length)).drop a.length = b := by
  rw [List.take_length_add_append, List.drop_left, List.take_left]
theorem PartsOk.keysL {toks : List Tok} {P : Parts} (h : PartsOk toks P) : (toks.take P.nS).drop (P.nO + 1) = P.kl := by
  have e : toks = (P.bh ++ (P.bl ++ [P.o])) ++ (P.kl ++ (P.sh :: (P.fl ++ P.tl))) := by rw [h.toks]; simp
  have e2 : (P.bh ++ (P.bl ++ [P.o])).length = P.nO + 1 := by simp [Parts.nO]; omega
  rw [e, ← e2, show P.nS = (P.bh ++ (P.bl ++ [P.o])).length + P.kl.length by rw [e2]; rfl]
  exact mid_take _ _ _
theorem PartsOk.funsL {toks : List Tok} {P : Parts} (h : PartsOk toks P) : (toks.take P.nT).drop (P.nS + 1) = P.fl := by
  have e : toks = (P.bh ++ (P.bl ++ P.o :: (P.kl ++ [P.sh]))) ++ (P.fl ++ P.tl) := by rw [h.toks]; simp
  have e2 : (P.bh ++ (P.bl ++ P.o :: (P.kl ++ [P.sh]))).length = P.nS + 1 := by simp [Parts.nS, Parts.nO]; omega
  rw [e, ← e2, show P.nT = (P.bh ++ (P.bl ++ P.o :: (P.kl ++ [P.sh]))).length + P.fl.length by rw [e2]; rfl]
  exact mid_take _ _ _
theorem PartsOk.byL {toks : List Tok} {P : Parts} (h : PartsOk toks P) (h1 : P.bh.length = 1) : (toks.take P.nO).drop 1 = P.bl := by
  rw [h.toks, show P.nO = P.bh.length + P.bl.length from rfl, ← h1]
  exact mid_take _ _ _
theorem cols_pos {cs : List Nat} {l : List Tok} (h : ColsSeg cs l) : 0 < l.length := by induction cs, l, h using ColsSeg_ind <;> simp
theorem keySeg_pos {k : Nat × Bool} {l : List Tok} (h : KeySeg k l) : 0 < l.length := by induction k, l, h using KeySeg_ind <;> simp
theorem keys_pos {ks : List (Nat × Bool)} {l : List Tok} (h : KeysSeg ks l) : 0 < l.length := by
  induction ks, l, h using KeysSeg_ind with
  | one k l hk => exact keySeg_pos hk
  | more k l y ks m hk hy h => simp; omega
theorem fn_pos {f : Fn} {l : List Tok} (h : FnSeg f l) : 0 < l.length := by
  obtain ⟨x, r, rfl⟩ := fnSeg_head h; simp
theorem funs_pos {fs : List Fn} {segs : List (List Tok)} {l : List Tok} (h : FunsSeg fs segs l) : 0 < l.length := by
  induction fs, segs, l, h using FunsSeg_ind with
  | one f l hf => exact fn_pos hf
  | more f l y fs segs m hf hy h => simp; omega
structure Sizes (toks : List Tok) (P : Parts) : Prop where
  o : P.nO = P.bh.length + P.bl.length
  s : P.nS = P.nO + 1 + P.kl.length
  t : P.nT = P.nS + 1 + P.fl.length
  len : toks.length = P.nT + P.tl.length
  kl : 0 < P.kl.length
  fl : 0 < P.fl.length
  tl : P.tl.length = 0 ∨ P.tl.length = 2 ∨ P.tl.length = 4
  bh : (P.bh.length = 0 ∧ P.bl = []) ∨ (P.bh.length = 1 ∧ 0 < P.bl.length)
theorem PartsOk.sizes {toks : List Tok} {P : Parts} (h : PartsOk toks P) : Sizes toks P := by
  refine ⟨rfl, rfl, rfl, h.len, keys_pos h.keys, funs_pos h.funs, tail_cases h.top, ?_⟩
  rcases h.by' with ⟨h1, h2, _⟩ | ⟨x, h1, h2, h3⟩
  · exact .inl ⟨by rw [h1]; rfl, h2⟩
  · exact .inr ⟨by rw [h1]; rfl, cols_pos h3⟩
theorem PartsOk.first {toks : List Tok} {P : Parts} (h : PartsOk toks P) (h0 : 0 < toks.length) : (toks[0].text == wBy) = decide (P.bh.length = 1) := by
  rcases h.by' with ⟨h1, h2, _⟩ | ⟨x, h1, h2, h3⟩
  · have ht := h.toks
    rw [h1, h2] at ht
    simp only [List.nil_append] at ht
    have e2 : toks[0].text = wOrder := by
      have : toks[0] = P.o := by simp [ht]
      rw [this]; exact h.o
    rw [e2, h1]; rfl
  · have ht := h.toks
    rw [h1] at ht
    have e2 : toks[0].text = wBy := by
      have : toks[0] = x := by simp [ht]
      rw [this]; exact h2
    rw [e2, h1]; rfl
/-- what is told of top -/
def Parts.topV (P : Parts) : Int := if P.tl.length = 0 then -1 else P.top
theorem tail_get {toks : List Tok} {P : Parts} (h : PartsOk toks P) (j : Nat) : toks[P.nT + j]? = P.tl[j]? := by
  have e2 : toks = (P.bh ++ (P.bl ++ P.o :: (P.kl ++ P.sh :: P.fl))) ++ P.tl := by rw [h.toks]; simp
  have e3 : (P.bh ++ (P.bl ++ P.o :: (P.kl ++ P.sh :: P.fl))).length = P.nT := by simp [Parts.nT, Parts.nS, Parts.nO]; omega
  rw [e2, List.getElem?_append_right (by rw [e3]; omega), e3]
  congr 1; omega
theorem topSeg_top {ht : Bool} {tp fr : Int} {tl : List Tok} (h : TopSeg ht tp fr tl) (h0 : tl.length ≠ 0) : ∃ y, tl[1]? = some y ∧ NTok y ∧ worth y.text = tp := by
  induction ht, tp, fr, tl, h using TopSeg_ind with
  | none => simp at h0
  | top x y hx hy => exact ⟨y, rfl, hy, rfl⟩
  | frm x y a b hx hy ha hb => exact ⟨y, rfl, hy, rfl⟩
theorem topSeg_frm {ht : Bool} {tp fr : Int} {tl : List Tok} (h : TopSeg ht tp fr tl) : (tl.length ≤ 2 → fr = 0) ∧ (2 < tl.length → ∃ y, tl[3]? = some y ∧ NTok y ∧ worth y.text = fr) := by
  induction ht, tp, fr, tl, h using TopSeg_ind with
  | none => exact ⟨fun _ => rfl, fun h => by simp at h⟩
  | top x y hx hy => exact ⟨fun _ => rfl, fun h => by simp at h⟩
  | frm x y a b hx hy ha hb => exact ⟨fun h => by simp at h, fun _ => ⟨b, rfl, hb, rfl⟩⟩
theorem PartsOk.topTok {toks : List Tok} {P : Parts} (h : PartsOk toks P) (h0 : P.tl.length ≠ 0) (hl : P.nT + 1 < toks.length) : NTok toks[P.nT + 1] ∧ worth toks[P.nT + 1].text = P.top := by
  obtain ⟨y, e, h1, h2⟩ := topSeg_top h.top h0
  have e1 := tail_get h 1
  rw [e, List.getElem?_eq_getElem hl] at e1
  cases e1
  exact ⟨h1, h2⟩
theorem PartsOk.frmTok {toks : List Tok} {P : Parts} (h : PartsOk toks P) (h0 : 2 < P.tl.length) (hl : P.nT + 3 < toks.length) : NTok toks[P.nT + 3] ∧ worth toks[P.nT + 3].text = P.frm := by
  obtain ⟨y, e, h1, h2⟩ := (topSeg_frm h.top).2 h0
  have e1 := tail_get h 3
  rw [e, List.getElem?_eq_getElem hl] at e1
  cases e1
  exact ⟨h1, h2⟩
theorem splitF_ne (o : Int) (cur : List Tok) (l : List Tok) : splitF o cur l ≠ [] := by
  induction l generalizing o cur with
  | nil => simp [splitF]
  | cons x r ih => rw [splitF]; split; simp; exact ih _ _
end Pr
end Go.Proofs.YtcoofnhdbejnpaaDoor
