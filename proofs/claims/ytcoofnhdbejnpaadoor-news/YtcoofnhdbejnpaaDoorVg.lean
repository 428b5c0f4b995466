/- Plain functions: the plain form out of the tokens; where a word stands among them; how they are cut. -/
import Derived.Test.YtcoofnhdbejnpaaDoorVf
namespace Go.Proofs.YtcoofnhdbejnpaaDoor
namespace Pr
open Pq
/-- without noughts ahead -/
def short : Bytes → Bytes
  | [] => []
  | [a] => [a]
  | a :: b :: r => if a == 48 then short (b :: r) else a :: b :: r
def sp (b : Bool) : Bytes := if b then [] else [32]
def glued (b : Bool) (t : Bytes) : Bool := b || t == wOpen || t == wClose || t == wComma
/-- the tokens as one text: b: nothing, or an opening sign, stands ahead -/
def glue (b : Bool) : List Tok → Bytes
  | [] => []
  | x :: r => sp (glued b x.text) ++ (short x.text ++ glue (x.text == wOpen) r)
theorem numTok_short {x : Tok} (h : NTok x) : short x.text = numTxt (worth x.text) := by
  have h1 := h.len; have h2 := h.dig; have h3 := h.ne
  have dg : ∀ c : UInt8, isDig c = true → 48 ≤ c.toNat ∧ c.toNat ≤ 57 := by
    intro c hc
    simp only [isDig, Bool.and_eq_true, decide_eq_true_eq] at hc
    omega
  match ht : x.text with
  | [] => exact absurd ht h3
  | [a] =>
    rw [ht] at h2
    have ha := dg a (h2 a (by simp))
    have e : worth [a] = (a.toNat : Int) - 48 := by simp [worth]
    unfold numTxt
    rw [e, if_pos (by omega)]
    show [a] = [UInt8.ofNat (48 + ((a.toNat : Int) - 48).toNat)]
    congr 1
    apply UInt8.toNat_inj.1
    simp; omega
  | [a, b] =>
    rw [ht] at h2
    have ha := dg a (h2 a (by simp))
    have hb := dg b (h2 b (by simp))
    have e : worth [a, b] = ((a.toNat : Int) - 48) * 10 + ((b.toNat : Int) - 48) := by simp [worth]
    unfold numTxt
    rw [e]
    by_cases h0 : a = 48
    · subst h0
      rw [if_pos (by simp; omega), show short [48, b] = [b] from rfl]
      congr 1
      apply UInt8.toNat_inj.1
      simp; omega
    · have h0' : a.toNat ≠ 48 := fun e => h0 (UInt8.toNat_inj.1 (by simpa using e))
      rw [if_neg (by omega)]
      have es : short [a, b] = [a, b] := by simp [short, h0]
      rw [es]
      congr 1
      · apply UInt8.toNat_inj.1; simp; omega
      · congr 1; apply UInt8.toNat_inj.1; simp; omega
  | a :: b :: c :: r => rw [ht] at h1; simp at h1
def heads : List Bytes := [wBy, wOrder, wShow, wTop, wFrom]
/-- neither a head word nor a sign -/
structure Inner (x : Tok) : Prop where
  head : x.text ∉ heads
theorem Inner.ne {x : Tok} (h : Inner x) {w : Bytes} (hw : w ∈ heads) : (x.text == w) = false := by
  simp only [beq_eq_false_iff_ne]; exact fun e => h.head (e ▸ hw)
structure Word (x : Tok) : Prop where
  opn : (x.text == wOpen) = false
  cls : (x.text == wClose) = false
  com : (x.text == wComma) = false
theorem Inner.of {x : Tok} {t : Bytes} (h : x.text = t) (ht : t ∉ heads) : Inner x := ⟨by rw [h]; exact ht⟩
theorem Word.of {x : Tok} {t : Bytes} (h : x.text = t) (h1 : (t == wOpen) = false) (h2 : (t == wClose) = false) (h3 : (t == wComma) = false) : Word x := ⟨by rw [h]; exact h1, by rw [h]; exact h2, by rw [h]; exact h3⟩
theorem NTok.numT {x : Tok} (h : NTok x) : numT x.text = true := by
  have h2 := h.dig; have h3 := h.ne
  cases ht : x.text with
  | nil => exact absurd ht h3
  | cons a r => rw [ht] at h2; exact h2 a (by simp)
theorem NTok.not {x : Tok} (h : NTok x) {t : Bytes} (ht : Pr.numT t = false) : x.text ≠ t := by
  intro e; have := h.numT; rw [e, ht] at this; cases this
theorem NTok.inner {x : Tok} (h : NTok x) : Inner x := ⟨by
  simp only [heads, List.mem_cons, List.not_mem_nil, or_false, not_or]
  exact ⟨h.not (by decide), h.not (by decide), h.not (by decide), h.not (by decide), h.not (by decide)⟩⟩
theorem NTok.word {x : Tok} (h : NTok x) : Word x := ⟨by simpa using h.not (t := wOpen) (by decide), by simpa using h.not (t := wClose) (by decide), by simpa using h.not (t := wComma) (by decide)⟩
theorem glue_word {x : Tok} (h : Word x) (b : Bool) (r : List Tok) : glue b (x :: r) = sp b ++ (short x.text ++ glue false r) := by
  simp only [glue, glued, h.opn, h.cls, h.com, Bool.or_false]
theorem glue_const {x : Tok} {t : Bytes} (e : x.text = t) (h1 : (t == wOpen) = false) (h2 : (t == wClose) = false) (h3 : (t == wComma) = false) (h4 : short t = t) (b : Bool) (r : List Tok) : glue b (x :: r) = sp b ++ (t ++ glue false r) := by
  rw [glue_word (Word.of e h1 h2 h3), e, h4]
theorem glue_num {x : Tok} (h : NTok x) (b : Bool) (r : List Tok) : glue b (x :: r) = sp b ++ (numTxt (worth x.text) ++ glue false r) := by
  rw [glue_word h.word, numTok_short h]
theorem glue_open {x : Tok} (e : x.text = wOpen) (b : Bool) (r : List Tok) : glue b (x :: r) = wOpen ++ glue true r := by
  simp [glue, glued, e, sp, short, wOpen]
theorem glue_close {x : Tok} (e : x.text = wClose) (b : Bool) (r : List Tok) : glue b (x :: r) = wClose ++ glue false r := by
  simp [glue, glued, e, sp, short, wClose, wOpen]
theorem glue_comma {x : Tok} (e : x.text = wComma) (b : Bool) (r : List Tok) : glue b (x :: r) = wComma ++ glue false r := by
  simp [glue, glued, e, sp, short, wClose, wOpen, wComma]
theorem kind_ok : ∀ k, k < 12 → kindTxt k ∉ heads ∧ (kindTxt k == wOpen) = false ∧ (kindTxt k == wClose) = false ∧ (kindTxt k == wComma) = false ∧ short (kindTxt k) = kindTxt k := by decide
theorem col_ok : ∀ k, k < 3 → colTxt k ∉ heads ∧ (colTxt k == wOpen) = false ∧ (colTxt k == wClose) = false ∧ (colTxt k == wComma) = false ∧ short (colTxt k) = colTxt k := by decide
theorem glue_kind {x : Tok} {k : Nat} (hk : k < 12) (e : x.text = kindTxt k) (b : Bool) (r : List Tok) : glue b (x :: r) = sp b ++ (kindTxt k ++ glue false r) := glue_const e (kind_ok k hk).2.1 (kind_ok k hk).2.2.1 (kind_ok k hk).2.2.2.1 (kind_ok k hk).2.2.2.2 b r
theorem glue_col {x : Tok} {k : Nat} (hk : k < 3) (e : x.text = colTxt k) (b : Bool) (r : List Tok) : glue b (x :: r) = sp b ++ (colTxt k ++ glue false r) := glue_const e (col_ok k hk).2.1 (col_ok k hk).2.2.1 (col_ok k hk).2.2.2.1 (col_ok k hk).2.2.2.2 b r
/-! edges, frames, functions -/
theorem edge_glue {e : Edge} {l : List Tok} (h : EdgeSeg e l) (b : Bool) (r : List Tok) : glue b (l ++ r) = sp b ++ (edgeTxt e ++ glue false r) := by
  induction e, l, h using EdgeSeg_ind with
  | start x hx => exact glue_const hx (by decide) (by decide) (by decide) (by decide) b r
  | endd x hx => exact glue_const hx (by decide) (by decide) (by decide) (by decide) b r
  | here x hx => exact glue_const hx (by decide) (by decide) (by decide) (by decide) b r
  | back x y hx hy =>
    show glue b (x :: y :: r) = _
    rw [glue_num hx, glue_const hy (by decide) (by decide) (by decide) (by decide)]
    simp [edgeTxt, sp]
  | on x y hx hy =>
    show glue b (x :: y :: r) = _
    rw [glue_num hx, glue_const hy (by decide) (by decide) (by decide) (by decide)]
    simp [edgeTxt, sp]
theorem edge_in {e : Edge} {l : List Tok} (h : EdgeSeg e l) : ∀ x ∈ l, Inner x ∧ Word x := by
  induction e, l, h using EdgeSeg_ind with
  | start x hx => intro y hy; cases List.mem_singleton.1 hy; exact ⟨.of hx (by decide), .of hx (by decide) (by decide) (by decide)⟩
  | endd x hx => intro y hy; cases List.mem_singleton.1 hy; exact ⟨.of hx (by decide), .of hx (by decide) (by decide) (by decide)⟩
  | here x hx => intro y hy; cases List.mem_singleton.1 hy; exact ⟨.of hx (by decide), .of hx (by decide) (by decide) (by decide)⟩
  | back x y hx hy =>
    intro z hz
    simp only [List.mem_cons, List.not_mem_nil, or_false] at hz
    rcases hz with rfl | rfl
    · exact ⟨hx.inner, hx.word⟩
    · exact ⟨.of hy (by decide), .of hy (by decide) (by decide) (by decide)⟩
  | on x y hx hy =>
    intro z hz
    simp only [List.mem_cons, List.not_mem_nil, or_false] at hz
    rcases hz with rfl | rfl
    · exact ⟨hx.inner, hx.word⟩
    · exact ⟨.of hy (by decide), .of hy (by decide) (by decide) (by decide)⟩
theorem frame_glue {f : Frame} {l : List Tok} (h : FrameSeg f l) (b : Bool) (r : List Tok) : glue b (l ++ r) = sp b ++ (frameTxt f ++ glue false r) := by
  induction f, l, h using FrameSeg_ind with
  | all x hx => exact glue_const hx (by decide) (by decide) (by decide) (by decide) b r
  | peers x hx => exact glue_const hx (by decide) (by decide) (by decide) (by decide) b r
  | near x y hx hy =>
    show glue b (x :: y :: r) = _
    rw [glue_const hx (by decide) (by decide) (by decide) (by decide), glue_num hy]
    simp [frameTxt, sp]
  | edges a c l m x ha hx hc =>
    rw [List.append_assoc, List.cons_append, edge_glue ha, glue_const hx (by decide) (by decide) (by decide) (by decide), edge_glue hc]
    simp [frameTxt, sp]
theorem frame_in {f : Frame} {l : List Tok} (h : FrameSeg f l) : ∀ x ∈ l, Inner x ∧ Word x := by
  induction f, l, h using FrameSeg_ind with
  | all x hx => intro y hy; cases List.mem_singleton.1 hy; exact ⟨.of hx (by decide), .of hx (by decide) (by decide) (by decide)⟩
  | peers x hx => intro y hy; cases List.mem_singleton.1 hy; exact ⟨.of hx (by decide), .of hx (by decide) (by decide) (by decide)⟩
  | near x y hx hy =>
    intro z hz
    simp only [List.mem_cons, List.not_mem_nil, or_false] at hz
    rcases hz with rfl | rfl
    · exact ⟨.of hx (by decide), .of hx (by decide) (by decide) (by decide)⟩
    · exact ⟨hy.inner, hy.word⟩
  | edges a c l m x ha hx hc =>
    intro z hz
    simp only [List.mem_append, List.mem_cons] at hz
    rcases hz with hz | rfl | hz
    · exact edge_in ha z hz
    · exact ⟨.of hx (by decide), .of hx (by decide) (by decide) (by decide)⟩
    · exact edge_in hc z hz
theorem fn_glue {f : Fn} {l : List Tok} (h : FnSeg f l) (b : Bool) (r : List Tok) : glue b (l ++ r) = sp b ++ (fnTxt f ++ glue false r) := by
  induction f, l, h using FnSeg_ind with
  | word k x hk hx =>
    show glue b (x :: r) = _
    rw [glue_kind (by omega) hx]; simp [fnTxt, hk]
  | tile x a y c hx ha hy hc =>
    show glue b (x :: a :: y :: c :: r) = _
    rw [glue_kind (by omega) hx, glue_open ha, glue_num hy, glue_close hc]; simp [fnTxt, sp]
  | lag k c x a p q y d hk hk6 hc hx ha hp hq hy hd =>
    show glue b (x :: a :: p :: q :: y :: d :: r) = _
    rw [glue_kind (by omega) hx, glue_open ha, glue_col hc hp, glue_comma hq, glue_num hy, glue_close hd]
    have e1 : ¬ k < 3 := by omega
    have e2 : ¬ k = 3 := by omega
    simp [fnTxt, sp, e1, e2, hk6]
  | over k c fr x a p q d m hk hk12 hc hx ha hp hq hf hd =>
    show glue b (x :: a :: p :: q :: ((m ++ [d]) ++ r)) = _
    rw [List.append_assoc, glue_kind (by omega) hx, glue_open ha, glue_col hc hp, glue_comma hq, frame_glue hf, List.singleton_append, glue_close hd]
    have e1 : ¬ k < 3 := by omega
    have e2 : ¬ k = 3 := by omega
    have e3 : ¬ k < 6 := by omega
    simp [fnTxt, sp, e1, e2, e3]
theorem fn_in {f : Fn} {l : List Tok} (h : FnSeg f l) : ∀ x ∈ l, Inner x := by
  have hk : ∀ {k : Nat} {x : Tok}, k < 12 → x.text = kindTxt k → Inner x := fun hk e => .of e (kind_ok _ hk).1
  have hc : ∀ {k : Nat} {x : Tok}, k < 3 → x.text = colTxt k → Inner x := fun hk e => .of e (col_ok _ hk).1
  intro z hz
  induction f, l, h using FnSeg_ind with
  | word k x h1 hx => cases List.mem_singleton.1 hz; exact hk (by omega) hx
  | tile x a y c hx ha hy h1 =>
    simp only [List.mem_cons, List.not_mem_nil, or_false] at hz
    rcases hz with rfl | rfl | rfl | rfl
    · exact hk (by omega) hx
    · exact .of ha (by decide)
    · exact hy.inner
    · exact .of h1 (by decide)
  | lag k c x a p q y d h1 h2 h3 hx ha hp hq hy hd =>
    simp only [List.mem_cons, List.not_mem_nil, or_false] at hz
    rcases hz with rfl | rfl | rfl | rfl | rfl | rfl
    · exact hk (by omega) hx
    · exact .of ha (by decide)
    · exact hc h3 hp
    · exact .of hq (by decide)
    · exact hy.inner
    · exact .of hd (by decide)
  | over k c fr x a p q d m h1 h2 h3 hx ha hp hq hf hd =>
    simp only [List.mem_cons, List.mem_append, List.not_mem_nil, or_false] at hz
    rcases hz with rfl | rfl | rfl | rfl | hz | rfl
    · exact hk (by omega) hx
    · exact .of ha (by decide)
    · exact hc h3 hp
    · exact .of hq (by decide)
    · exact (frame_in hf z hz).1
    · exact .of hd (by decide)
/-! lists -/
theorem ColsSeg_cons {cs : List Nat} {l : List Tok} (h : ColsSeg cs l) : ∃ d ds, cs = d :: ds := h (fun cs _ => ∃ d ds, cs = d :: ds) (fun _ _ _ _ => ⟨_, _, rfl⟩) (fun _ _ _ _ _ _ _ _ _ => ⟨_, _, rfl⟩)
theorem KeysSeg_cons {ks : List (Nat × Bool)} {l : List Tok} (h : KeysSeg ks l) : ∃ d ds, ks = d :: ds := h (fun ks _ => ∃ d ds, ks = d :: ds) (fun _ _ _ => ⟨_, _, rfl⟩) (fun _ _ _ _ _ _ _ _ => ⟨_, _, rfl⟩)
theorem FunsSeg_cons {fs : List Fn} {segs : List (List Tok)} {l : List Tok} (h : FunsSeg fs segs l) : ∃ d ds, fs = d :: ds := h (fun fs _ _ => ∃ d ds, fs = d :: ds) (fun _ _ _ => ⟨_, _, rfl⟩) (fun _ _ _ _ _ _ _ _ _ => ⟨_, _, rfl⟩)
theorem cols_glue {cs : List Nat} {l : List Tok} (h : ColsSeg cs l) : ∀ (b : Bool) (r : List Tok), glue b (l ++ r) = sp b ++ (colsTxt cs ++ glue false r) := by
  induction cs, l, h using ColsSeg_ind with
  | one c x hc hx => intro b r; show glue b (x :: r) = _; rw [glue_col hc hx]; rfl
  | more c x y cs l hc hx hy h ih =>
    intro b r
    show glue b (x :: y :: (l ++ r)) = _
    rw [glue_col hc hx, glue_comma hy, ih]
    obtain ⟨d, ds, rfl⟩ := ColsSeg_cons h
    simp [colsTxt, joinTxt, sp, wComma]
theorem cols_in {cs : List Nat} {l : List Tok} (h : ColsSeg cs l) : ∀ x ∈ l, Inner x := by
  induction cs, l, h using ColsSeg_ind with
  | one c x hc hx => intro z hz; cases List.mem_singleton.1 hz; exact .of hx (col_ok _ hc).1
  | more c x y cs l hc hx hy h ih =>
    intro z hz
    simp only [List.mem_cons] at hz
    rcases hz with rfl | rfl | hz
    · exact .of hx (col_ok _ hc).1
    · exact .of hy (by decide)
    · exact ih z hz
theorem key_glue {k : Nat × Bool} {l : List Tok} (h : KeySeg k l) (b : Bool) (r : List Tok) : glue b (l ++ r) = sp b ++ (keyTxt k ++ glue false r) := by
  induction k, l, h using KeySeg_ind with
  | asc c x hc hx => show glue b (x :: r) = _; rw [glue_col hc hx]; rfl
  | desc c x y hc hx hy =>
    show glue b (x :: y :: r) = _
    rw [glue_col hc hx, glue_const hy (by decide) (by decide) (by decide) (by decide)]
    simp [keyTxt, sp]
theorem key_in {k : Nat × Bool} {l : List Tok} (h : KeySeg k l) : ∀ x ∈ l, Inner x := by
  intro z hz
  induction k, l, h using KeySeg_ind with
  | asc c x hc hx => cases List.mem_singleton.1 hz; exact .of hx (col_ok _ hc).1
  | desc c x y hc hx hy =>
    simp only [List.mem_cons, List.not_mem_nil, or_false] at hz
    rcases hz with rfl | rfl
    · exact .of hx (col_ok _ hc).1
    · exact .of hy (by decide)
theorem keys_glue {ks : List (Nat × Bool)} {l : List Tok} (h : KeysSeg ks l) : ∀ (b : Bool) (r : List Tok), glue b (l ++ r) = sp b ++ (keysTxt ks ++ glue false r) := by
  induction ks, l, h using KeysSeg_ind with
  | one k l hk => intro b r; rw [key_glue hk]; rfl
  | more k l y ks m hk hy h ih =>
    intro b r
    rw [List.append_assoc, List.cons_append, key_glue hk, glue_comma hy, ih]
    obtain ⟨d, ds, rfl⟩ := KeysSeg_cons h
    simp [keysTxt, joinTxt, sp, wComma]
theorem keys_in {ks : List (Nat × Bool)} {l : List Tok} (h : KeysSeg ks l) : ∀ x ∈ l, Inner x := by
  induction ks, l, h using KeysSeg_ind with
  | one k l hk => exact key_in hk
  | more k l y ks m hk hy h ih =>
    intro z hz
    simp only [List.mem_append, List.mem_cons] at hz
    rcases hz with hz | rfl | hz
    · exact key_in hk z hz
    · exact .of hy (by decide)
    · exact ih z hz
theorem funs_glue {fs : List Fn} {segs : List (List Tok)} {l : List Tok} (h : FunsSeg fs segs l) : ∀ (b : Bool) (r : List Tok), glue b (l ++ r) = sp b ++ (fnsTxt fs ++ glue false r) := by
  induction fs, segs, l, h using FunsSeg_ind with
  | one f l hf => intro b r; rw [fn_glue hf]; rfl
  | more f l y fs segs m hf hy h ih =>
    intro b r
    rw [List.append_assoc, List.cons_append, fn_glue hf, glue_comma hy, ih]
    obtain ⟨d, ds, rfl⟩ := FunsSeg_cons h
    simp [fnsTxt, joinTxt, sp, wComma]
theorem funs_in {fs : List Fn} {segs : List (List Tok)} {l : List Tok} (h : FunsSeg fs segs l) : ∀ x ∈ l, Inner x := by
  induction fs, segs, l, h using FunsSeg_ind with
  | one f l hf => exact fn_in hf
  | more f l y fs segs m hf hy h ih =>
    intro z hz
    simp only [List.mem_append, List.mem_cons] at hz
    rcases hz with hz | rfl | hz
    · exact fn_in hf z hz
    · exact .of hy (by decide)
    · exact ih z hz
end Pr
end Go.Proofs.YtcoofnhdbejnpaaDoor
