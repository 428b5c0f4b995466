/- Plain functions: the whole query's tokens: the plain form, the places of the words, the cut. -/
import Derived.Test.YtcoofnhdbejnpaaDoorVg
namespace Go.Proofs.YtcoofnhdbejnpaaDoor
namespace Pr
open Pq
/-! where a word stands -/
def findT (t : Bytes) (l : List Tok) : Nat := l.findIdx (fun x => x.text == t)
theorem findT_skip {t : Bytes} {a b : List Tok} (h : ∀ x ∈ a, (x.text == t) = false) : findT t (a ++ b) = a.length + findT t b := by
  induction a with
  | nil => simp
  | cons x a ih =>
    have hx := h x (by simp)
    have := ih (fun y hy => h y (by simp [hy]))
    unfold findT at *
    rw [List.cons_append, List.findIdx_cons, hx]
    simp only [cond_false, List.length_cons, this]; omega
theorem findT_hit {t : Bytes} {x : Tok} {b : List Tok} (h : x.text = t) : findT t (x :: b) = 0 := by
  unfold findT; rw [List.findIdx_cons]; simp [h]
theorem findT_miss {t : Bytes} {x : Tok} {b : List Tok} (h : (x.text == t) = false) : findT t (x :: b) = 1 + findT t b := by
  unfold findT; rw [List.findIdx_cons]; simp [h]; omega
theorem findT_nil (t : Bytes) : findT t [] = 0 := rfl
theorem mem_heads : wBy ∈ heads ∧ wOrder ∈ heads ∧ wShow ∈ heads ∧ wTop ∈ heads ∧ wFrom ∈ heads := by decide
/-- the tokens' number ahead of order, of show, and of what is behind the FUNCs -/
def Parts.nO (P : Parts) : Nat := P.bh.length + P.bl.length
def Parts.nS (P : Parts) : Nat := P.nO + 1 + P.kl.length
def Parts.nT (P : Parts) : Nat := P.nS + 1 + P.fl.length
theorem PartsOk.by_in {toks : List Tok} {P : Parts} (h : PartsOk toks P) {t : Bytes} (ht : t ∈ heads) (hn : wBy ≠ t) : (∀ x ∈ P.bh, (x.text == t) = false) ∧ ∀ x ∈ P.bl, (x.text == t) = false := by
  rcases h.by' with ⟨h1, h2, _⟩ | ⟨x, h1, h2, h3⟩
  · rw [h1, h2]; exact ⟨(fun _ q => by cases q), (fun _ q => by cases q)⟩
  · rw [h1]
    refine ⟨fun y hy => ?_, fun y hy => (cols_in h3 y hy).ne ht⟩
    cases List.mem_singleton.1 hy
    rw [h2]; simpa using hn
theorem PartsOk.order {toks : List Tok} {P : Parts} (h : PartsOk toks P) : findT wOrder toks = P.nO := by
  have hb := h.by_in mem_heads.2.1 (by decide)
  rw [h.toks, findT_skip hb.1, findT_skip hb.2, findT_hit h.o]; rfl
theorem PartsOk.show' {toks : List Tok} {P : Parts} (h : PartsOk toks P) : findT wShow toks = P.nS := by
  have hb := h.by_in mem_heads.2.2.1 (by decide)
  rw [h.toks, findT_skip hb.1, findT_skip hb.2, findT_miss (by rw [h.o]; decide), findT_skip (fun x hx => (keys_in h.keys x hx).ne mem_heads.2.2.1), findT_hit h.sh]
  simp only [Parts.nS, Parts.nO]; omega
theorem PartsOk.tail {toks : List Tok} {P : Parts} (h : PartsOk toks P) {t : Bytes} (ht : t = wTop ∨ t = wFrom) : findT t toks = P.nT + findT t P.tl := by
  have hm : t ∈ heads := by rcases ht with rfl | rfl <;> decide
  have hb := h.by_in hm (by rcases ht with rfl | rfl <;> decide)
  rw [h.toks, findT_skip hb.1, findT_skip hb.2, findT_miss (by rw [h.o]; rcases ht with rfl | rfl <;> decide), findT_skip (fun x hx => (keys_in h.keys x hx).ne hm), findT_miss (by rw [h.sh]; rcases ht with rfl | rfl <;> decide), findT_skip (fun x hx => (funs_in h.funs x hx).ne hm)]
  simp only [Parts.nT, Parts.nS, Parts.nO]; omega
theorem PartsOk.len {toks : List Tok} {P : Parts} (h : PartsOk toks P) : toks.length = P.nT + P.tl.length := by
  rw [h.toks]; simp only [Parts.nT, Parts.nS, Parts.nO, List.length_append, List.length_cons]; omega
theorem tail_top {ht : Bool} {tp fr : Int} {tl : List Tok} (h : TopSeg ht tp fr tl) : findT wTop tl = 0 := by
  induction ht, tp, fr, tl, h using TopSeg_ind with
  | none => rfl
  | top x y hx hy => exact findT_hit hx
  | frm x y a b hx hy ha hb => exact findT_hit hx
theorem cols_ne {cs : List Nat} {l : List Tok} (h : ColsSeg cs l) : cs.length ≠ 0 := by induction cs, l, h using ColsSeg_ind <;> simp
theorem PartsOk.top' {toks : List Tok} {P : Parts} (h : PartsOk toks P) : findT wTop toks = P.nT := by
  rw [h.tail (.inl rfl), tail_top h.top]; rfl
theorem tail_from {ht : Bool} {tp fr : Int} {tl : List Tok} (h : TopSeg ht tp fr tl) : findT wFrom tl = if tl.length ≤ 2 then tl.length else 2 := by
  induction ht, tp, fr, tl, h using TopSeg_ind with
  | none => rfl
  | top x y hx hy => rw [findT_miss (by rw [hx]; decide), findT_miss (hy.inner.ne mem_heads.2.2.2.2)]; rfl
  | frm x y a b hx hy ha hb => rw [findT_miss (by rw [hx]; decide), findT_miss (hy.inner.ne mem_heads.2.2.2.2), findT_hit ha]; rfl
theorem tail_cases {ht : Bool} {tp fr : Int} {tl : List Tok} (h : TopSeg ht tp fr tl) : tl.length = 0 ∨ tl.length = 2 ∨ tl.length = 4 := by
  induction ht, tp, fr, tl, h using TopSeg_ind <;> simp
theorem PartsOk.from' {toks : List Tok} {P : Parts} (h : PartsOk toks P) : findT wFrom toks = if P.tl.length ≤ 2 then toks.length else P.nT + 2 := by
  rw [h.tail (.inr rfl), tail_from h.top, h.len]; split <;> rfl
/-! the plain form -/
theorem glue_order {x : Tok} (e : x.text = wOrder) (b : Bool) (r : List Tok) : glue b (x :: r) = sp b ++ (wOrder ++ glue false r) := glue_const e (by decide) (by decide) (by decide) (by decide) b r
theorem glue_show {x : Tok} (e : x.text = wShow) (b : Bool) (r : List Tok) : glue b (x :: r) = sp b ++ (wShow ++ glue false r) := glue_const e (by decide) (by decide) (by decide) (by decide) b r
theorem glue_by {x : Tok} (e : x.text = wBy) (b : Bool) (r : List Tok) : glue b (x :: r) = sp b ++ (wBy ++ glue false r) := glue_const e (by decide) (by decide) (by decide) (by decide) b r
theorem glue_top {x : Tok} (e : x.text = wTop) (b : Bool) (r : List Tok) : glue b (x :: r) = sp b ++ (wTop ++ glue false r) := glue_const e (by decide) (by decide) (by decide) (by decide) b r
theorem glue_from {x : Tok} (e : x.text = wFrom) (b : Bool) (r : List Tok) : glue b (x :: r) = sp b ++ (wFrom ++ glue false r) := glue_const e (by decide) (by decide) (by decide) (by decide) b r
theorem glue_head {toks : List Tok} {P : Parts} (h : PartsOk toks P) (r : List Tok) : glue true (P.bh ++ (P.bl ++ P.o :: (P.kl ++ P.sh :: (P.fl ++ r)))) = byTxt P.cs ++ (wOrder ++ 32 :: keysTxt P.ks) ++ (32 :: wShow ++ 32 :: fnsTxt P.fs) ++ glue false r := by
  rcases h.by' with ⟨h1, h2, h3⟩ | ⟨x, h1, h2, h3⟩
  · rw [h1, h2, h3]
    simp only [List.nil_append]
    rw [glue_order h.o, keys_glue h.keys, glue_show h.sh, funs_glue h.funs]
    simp [sp, byTxt]
  · have hne := cols_ne h3
    rw [h1, List.singleton_append, glue_by h2, cols_glue h3, glue_order h.o, keys_glue h.keys, glue_show h.sh, funs_glue h.funs]
    simp [sp, byTxt, hne]
/-- the end of what the plain form tells -/
def Parts.endd (P : Parts) (toks : List Tok) : Nat := if P.frm = 0 then findT wFrom toks else toks.length
theorem tail_glue {ht : Bool} {tp fr : Int} {tl : List Tok} (h : TopSeg ht tp fr tl) (hg : 0 ≤ fr) : glue false (tl.take (if fr = 0 then (if tl.length ≤ 2 then tl.length else 2) else tl.length)) = (if ht then 32 :: wTop ++ 32 :: numTxt tp else []) ++ (if 0 < fr then 32 :: wFrom ++ 32 :: numTxt fr else []) := by
  induction ht, tp, fr, tl, h using TopSeg_ind with
  | none => rfl
  | top x y hx hy =>
    show glue false [x, y] = _
    rw [glue_top hx, glue_num hy]; simp [sp, glue]
  | frm x y a b hx hy ha hb =>
    by_cases h0 : worth b.text = 0
    · rw [if_pos h0]
      show glue false [x, y] = _
      rw [glue_top hx, glue_num hy]; simp [sp, glue, h0]
    · rw [if_neg h0]
      show glue false [x, y, a, b] = _
      have h1 : 0 < worth b.text := by omega
      rw [glue_top hx, glue_num hy, glue_from ha, glue_num hb]; simp [sp, glue, h1]
theorem top_frm_nn {ht : Bool} {tp fr : Int} {tl : List Tok} (h : TopSeg ht tp fr tl) : 0 ≤ tp ∧ 0 ≤ fr := by
  induction ht, tp, fr, tl, h using TopSeg_ind with
  | none => exact ⟨by omega, by omega⟩
  | top x y hx hy => exact ⟨(worth_bd 2 _ hy.len hy.dig).1, by omega⟩
  | frm x y a b hx hy ha hb => exact ⟨(worth_bd 2 _ hy.len hy.dig).1, (worth_bd 2 _ hb.len hb.dig).1⟩
theorem plain_glue {toks : List Tok} {P : Parts} (h : PartsOk toks P) (nx : Nat) (fl : Bool) (m t a : Int) : glue true (toks.take (P.endd toks)) = plainTxt ⟨nx, fl, P.cs, P.ks, P.fs, P.hasTop, P.top, P.frm, m, t, a⟩ := by
  have e : toks.take (P.endd toks) = P.bh ++ (P.bl ++ P.o :: (P.kl ++ P.sh :: (P.fl ++ P.tl.take (if P.frm = 0 then (if P.tl.length ≤ 2 then P.tl.length else 2) else P.tl.length)))) := by
    have e1 : P.endd toks = P.nT + (if P.frm = 0 then (if P.tl.length ≤ 2 then P.tl.length else 2) else P.tl.length) := by
      unfold Parts.endd
      rw [h.from', h.len]
      split
      · split <;> rfl
      · rfl
    rw [e1]
    generalize (if P.frm = 0 then (if P.tl.length ≤ 2 then P.tl.length else 2) else P.tl.length) = n
    have e2 : toks = (P.bh ++ (P.bl ++ P.o :: (P.kl ++ P.sh :: P.fl))) ++ P.tl := by rw [h.toks]; simp
    have e3 : (P.bh ++ (P.bl ++ P.o :: (P.kl ++ P.sh :: P.fl))).length = P.nT := by simp [Parts.nT, Parts.nS, Parts.nO]; omega
    rw [e2, ← e3, List.take_length_add_append]
    simp
  rw [e, glue_head h, tail_glue h.top (top_frm_nn h.top).2]
  rfl
/-! the cut of the FUNCs -/
def opens (x : Tok) (o : Int) : Int := (if x.text == wOpen then o + 1 else o) - (if x.text == wClose then 1 else 0)
def splitF (o : Int) (cur : List Tok) : List Tok → List (List Tok)
  | [] => [cur]
  | x :: r => if x.text == wComma && opens x o == 0 then cur :: splitF (opens x o) [] r else splitF (opens x o) (cur ++ [x]) r
theorem splitF_word {x : Tok} (h : Word x) (o : Int) (cur r : List Tok) : splitF o cur (x :: r) = splitF o (cur ++ [x]) r := by
  simp [splitF, opens, h.opn, h.cls, h.com]
theorem splitF_words {l : List Tok} (h : ∀ x ∈ l, Word x) (o : Int) : ∀ (cur r : List Tok), splitF o cur (l ++ r) = splitF o (cur ++ l) r := by
  induction l with
  | nil => intro cur r; simp
  | cons x l ih =>
    intro cur r
    rw [List.cons_append, splitF_word (h x (by simp)), ih (fun y hy => h y (by simp [hy]))]; simp
theorem splitF_open {x : Tok} (h : x.text = wOpen) (o : Int) (cur r : List Tok) : splitF o cur (x :: r) = splitF (o + 1) (cur ++ [x]) r := by
  simp [splitF, opens, h, wOpen, wClose, wComma]
theorem splitF_close {x : Tok} (h : x.text = wClose) (o : Int) (cur r : List Tok) : splitF o cur (x :: r) = splitF (o - 1) (cur ++ [x]) r := by
  simp [splitF, opens, h, wOpen, wClose, wComma]
theorem splitF_comma1 {x : Tok} (h : x.text = wComma) (cur r : List Tok) : splitF 1 cur (x :: r) = splitF 1 (cur ++ [x]) r := by
  simp [splitF, opens, h, wOpen, wClose, wComma]
theorem splitF_comma0 {x : Tok} (h : x.text = wComma) (cur r : List Tok) : splitF 0 cur (x :: r) = cur :: splitF 0 [] r := by
  simp [splitF, opens, h, wOpen, wClose, wComma]
theorem kind_word {x : Tok} {k : Nat} (hk : k < 12) (e : x.text = kindTxt k) : Word x := .of e (kind_ok k hk).2.1 (kind_ok k hk).2.2.1 (kind_ok k hk).2.2.2.1
theorem col_word {x : Tok} {k : Nat} (hk : k < 3) (e : x.text = colTxt k) : Word x := .of e (col_ok k hk).2.1 (col_ok k hk).2.2.1 (col_ok k hk).2.2.2.1
theorem fn_split {f : Fn} {l : List Tok} (h : FnSeg f l) (cur r : List Tok) : splitF 0 cur (l ++ r) = splitF 0 (cur ++ l) r := by
  induction f, l, h using FnSeg_ind with
  | word k x hk hx => exact splitF_word (kind_word (by omega) hx) 0 cur r
  | tile x a y c hx ha hy hc =>
    show splitF 0 cur (x :: a :: y :: c :: r) = _
    rw [splitF_word (kind_word (by omega) hx), splitF_open ha, splitF_word hy.word, splitF_close hc]; simp
  | lag k c x a p q y d hk hk6 hc hx ha hp hq hy hd =>
    show splitF 0 cur (x :: a :: p :: q :: y :: d :: r) = _
    rw [splitF_word (kind_word (by omega) hx), splitF_open ha, splitF_word (col_word hc hp), Int.zero_add, splitF_comma1 hq, splitF_word hy.word, splitF_close hd]; simp
  | over k c fr x a p q d m hk hk12 hc hx ha hp hq hf hd =>
    show splitF 0 cur (x :: a :: p :: q :: ((m ++ [d]) ++ r)) = _
    rw [List.append_assoc, splitF_word (kind_word (by omega) hx), splitF_open ha, splitF_word (col_word hc hp), Int.zero_add, splitF_comma1 hq, splitF_words (fun x hx => (frame_in hf x hx).2), List.singleton_append, splitF_close hd]; simp
theorem funs_split {fs : List Fn} {segs : List (List Tok)} {l : List Tok} (h : FunsSeg fs segs l) : splitF 0 [] l = segs := by
  induction fs, segs, l, h using FunsSeg_ind with
  | one f l hf => have := fn_split hf [] []; simpa [splitF] using this
  | more f l y fs segs m hf hy h ih => rw [fn_split hf, List.nil_append, splitF_comma0 hy, ih]
theorem funs_seg {fs : List Fn} {segs : List (List Tok)} {l : List Tok} (h : FunsSeg fs segs l) : segs.length = fs.length ∧ ∀ i (h1 : i < segs.length) (h2 : i < fs.length), FnSeg fs[i] segs[i] := by
  induction fs, segs, l, h using FunsSeg_ind with
  | one f l hf => exact ⟨rfl, fun i h1 h2 => by simp at h1; subst h1; exact hf⟩
  | more f l y fs segs m hf hy h ih =>
    refine ⟨by simp [ih.1], fun i h1 h2 => ?_⟩
    cases i with
    | zero => exact hf
    | succ i => exact ih.2 i (by simpa using h1) (by simpa using h2)
/-! many and arg -/
def manyF (segs : List (List Tok)) : Int := match segs[4]? with | some l => headAt l | none => -1
theorem manyG_late : ∀ (segs : List (List Tok)) (n : Nat) (m : Int), 4 < n → manyG n m segs = m
  | [], _, _, _ => rfl
  | _ :: r, n, m, h => by rw [manyG, if_neg (by omega)]; exact manyG_late r (n + 1) m (by omega)
theorem manyG_eq (segs : List (List Tok)) : manyG 0 (-1) segs = manyF segs := by
  match segs with
  | [] => rfl
  | [_] => rfl
  | [_, _] => rfl
  | [_, _, _] => rfl
  | [_, _, _, _] => rfl
  | a :: b :: c :: d :: e :: r =>
    show manyG 5 (headAt e) r = headAt e
    exact manyG_late r 5 _ (by omega)
def argF : List (List Tok) → Int
  | [] => -1
  | l :: r => if tile0 l = -1 then argF r else tile0 l
theorem argG_eq : ∀ (segs : List (List Tok)) (a : Int), argG a segs = if a = -1 then argF segs else a
  | [], a => by by_cases h : a = -1 <;> simp [argG, argF, h]
  | l :: r, a => by
    rw [argG, argG_eq r]
    by_cases h : a = -1
    · simp [h, argF]
    · simp [h]
end Pr
end Go.Proofs.YtcoofnhdbejnpaaDoor
