/- Plain functions: what the tokens of a query that is read without a failure are. -/
import Derived.Test.YtcoofnhdbejnpaaGreatDoorG01
import Derived.Test.YtcoofnhdbejnpaaGreatDoorG00
namespace Go.Proofs.YtcoofnhdbejnpaaGreatDoor
namespace Pr
open Pq
/-- these tokens stand from the place i on -/
def At (toks : List Tok) (i : Nat) (l : List Tok) : Prop := ∃ r, toks.drop i = l ++ r
theorem At.append {toks a b : List Tok} {i : Nat} (h1 : At toks i a) (h2 : At toks (i + a.length) b) : At toks i (a ++ b) := by
  obtain ⟨r, e1⟩ := h1
  obtain ⟨r2, e2⟩ := h2
  refine ⟨r2, ?_⟩
  rw [← List.drop_drop, e1, List.drop_left] at e2
  rw [e1, e2, List.append_assoc]
theorem At.one {toks : List Tok} {i : Nat} {x : Tok} (h : toks[i]? = some x) : At toks i [x] := by
  have hl : i < toks.length := by
    rcases Nat.lt_or_ge i toks.length with h' | h'
    · exact h'
    · rw [List.getElem?_eq_none h'] at h; cases h
  rw [List.getElem?_eq_getElem hl] at h
  cases h
  exact ⟨toks.drop (i + 1), by rw [List.drop_eq_getElem_cons hl]; rfl⟩
theorem At.head {toks r : List Tok} {i : Nat} {x : Tok} (h : At toks i (x :: r)) : toks[i]? = some x := by
  obtain ⟨q, e⟩ := h
  have := congrArg List.head? e
  rw [List.head?_drop] at this
  exact this
def adv (s : PS) (n : Nat) : PS := { s with next := s.next + n }
/-- a token that is a number -/
structure NTok (x : Tok) : Prop where
  len : x.text.length ≤ 2
  dig : ∀ c ∈ x.text, isDig c = true
  ne : x.text ≠ []
/-! edges, frames, functions -/
def EdgeSeg (e : Edge) (l : List Tok) : Prop := ∀ M : Edge → List Tok → Prop, (∀ (x : Tok), x.text = wStart → M ⟨0, 0⟩ [x]) → (∀ (x : Tok), x.text = wEnd → M ⟨1, 0⟩ [x]) → (∀ (x : Tok), x.text = wHere → M ⟨2, 0⟩ [x]) → (∀ (x : Tok) (y : Tok), NTok x → y.text = wBack → M ⟨3, worth x.text⟩ [x, y]) → (∀ (x : Tok) (y : Tok), NTok x → y.text = wOn → M ⟨4, worth x.text⟩ [x, y]) → M e l
theorem EdgeSeg.start (x : Tok) (h : x.text = wStart) : EdgeSeg ⟨0, 0⟩ [x] := fun _ r0 _ _ _ _ => r0 x h
theorem EdgeSeg.on (x : Tok) (y : Tok) (hx : NTok x) (hy : y.text = wOn) : EdgeSeg ⟨4, worth x.text⟩ [x, y] := fun _ _ _ _ _ r4 => r4 x y hx hy
def FrameSeg (f : Frame) (l : List Tok) : Prop := ∀ M : Frame → List Tok → Prop, (∀ (x : Tok), x.text = wAll → M ⟨0, 0, ⟨0, 0⟩, ⟨0, 0⟩⟩ [x]) → (∀ (x : Tok), x.text = wPeers → M ⟨1, 0, ⟨0, 0⟩, ⟨0, 0⟩⟩ [x]) → (∀ (x : Tok) (y : Tok), x.text = wNear → NTok y → M ⟨2, worth y.text, ⟨0, 0⟩, ⟨0, 0⟩⟩ [x, y]) → (∀ (a : Edge) (b : Edge) (l : List Tok) (m : List Tok) (x : Tok), EdgeSeg a l → x.text = wTo → EdgeSeg b m → M ⟨3, 0, a, b⟩ (l ++ x :: m)) → M f l
theorem FrameSeg.all (x : Tok) (h : x.text = wAll) : FrameSeg ⟨0, 0, ⟨0, 0⟩, ⟨0, 0⟩⟩ [x] := fun _ r0 _ _ _ => r0 x h
theorem FrameSeg.near (x : Tok) (y : Tok) (hx : x.text = wNear) (hy : NTok y) : FrameSeg ⟨2, worth y.text, ⟨0, 0⟩, ⟨0, 0⟩⟩ [x, y] := fun _ _ _ r2 _ => r2 x y hx hy
def FnSeg (f : Fn) (l : List Tok) : Prop := ∀ M : Fn → List Tok → Prop, (∀ (k : Nat) (x : Tok), k < 3 → x.text = kindTxt k → M ⟨k, 0, 0, fr0⟩ [x]) → (∀ (x : Tok) (a : Tok) (y : Tok) (b : Tok), x.text = kindTxt 3 → a.text = wOpen → NTok y → b.text = wClose → M ⟨3, 0, worth y.text, fr0⟩ [x, a, y, b]) → (∀ (k : Nat) (c : Nat) (x : Tok) (a : Tok) (p : Tok) (q : Tok) (y : Tok) (b : Tok), 3 < k → k < 6 → c < 3 → x.text = kindTxt k → a.text = wOpen → p.text = colTxt c → q.text = wComma → NTok y → b.text = wClose → M ⟨k, c, worth y.text, fr0⟩ [x, a, p, q, y, b]) → (∀ (k : Nat) (c : Nat) (f : Frame) (x : Tok) (a : Tok) (p : Tok) (q : Tok) (b : Tok) (l : List Tok), 5 < k → k < 12 → c < 3 → x.text = kindTxt k → a.text = wOpen → p.text = colTxt c → q.text = wComma → FrameSeg f l → b.text = wClose → M ⟨k, c, 0, f⟩ (x :: a :: p :: q :: (l ++ [b]))) → M f l
theorem FnSeg.word (k : Nat) (x : Tok) (hk : k < 3) (hx : x.text = kindTxt k) : FnSeg ⟨k, 0, 0, fr0⟩ [x] := fun _ r0 _ _ _ => r0 k x hk hx
end Pr
end Go.Proofs.YtcoofnhdbejnpaaGreatDoor

/- Plain functions: what the tokens of a query that is read without a failure are: lists, and the whole. -/
namespace Go.Proofs.YtcoofnhdbejnpaaGreatDoor
namespace Pr
open Pq
def ColsSeg (cs : List Nat) (l : List Tok) : Prop := ∀ M : List Nat → List Tok → Prop, (∀ (c : Nat) (x : Tok), c < 3 → x.text = colTxt c → M [c] [x]) → (∀ (c : Nat) (x : Tok) (y : Tok) (cs : List Nat) (l : List Tok), c < 3 → x.text = colTxt c → y.text = wComma → M cs l → M (c :: cs) (x :: y :: l)) → M cs l
theorem ColsSeg.one (c : Nat) (x : Tok) (hc : c < 3) (hx : x.text = colTxt c) : ColsSeg [c] [x] := fun _ r0 _ => r0 c x hc hx
theorem ColsSeg.more (c : Nat) (x : Tok) (y : Tok) (cs : List Nat) (l : List Tok) (hc : c < 3) (hx : x.text = colTxt c) (hy : y.text = wComma) (h : ColsSeg cs l) : ColsSeg (c :: cs) (x :: y :: l) := fun M r0 r1 => r1 c x y cs l hc hx hy (h M r0 r1)
theorem ColsSeg_ind {motive : (cs : List Nat) → (l : List Tok) → ColsSeg cs l → Prop} (one : ∀ (c : Nat) (x : Tok) (hc : c < 3) (hx : x.text = colTxt c), motive [c] [x] (ColsSeg.one c x hc hx)) (more : ∀ (c : Nat) (x : Tok) (y : Tok) (cs : List Nat) (l : List Tok) (hc : c < 3) (hx : x.text = colTxt c) (hy : y.text = wComma) (h : ColsSeg cs l), motive cs l h → motive (c :: cs) (x :: y :: l) (ColsSeg.more c x y cs l hc hx hy h)) (cs : List Nat) (l : List Tok) (h : ColsSeg cs l) : motive cs l h := by
  obtain ⟨_, q⟩ := h (fun cs l => ∃ h : ColsSeg cs l, motive cs l h) (fun c x hc hx => ⟨_, one c x hc hx⟩) (fun c x y cs l hc hx hy ⟨h, q_h⟩ => ⟨_, more c x y cs l hc hx hy h q_h⟩)
  exact q
def KeySeg (k : Nat × Bool) (l : List Tok) : Prop := ∀ M : Nat × Bool → List Tok → Prop, (∀ (c : Nat) (x : Tok), c < 3 → x.text = colTxt c → M (c, false) [x]) → (∀ (c : Nat) (x : Tok) (y : Tok), c < 3 → x.text = colTxt c → y.text = wDesc → M (c, true) [x, y]) → M k l
def KeysSeg (ks : List (Nat × Bool)) (l : List Tok) : Prop := ∀ M : List (Nat × Bool) → List Tok → Prop, (∀ (k : Nat × Bool) (l : List Tok), KeySeg k l → M [k] l) → (∀ (k : Nat × Bool) (l : List Tok) (y : Tok) (ks : List (Nat × Bool)) (m : List Tok), KeySeg k l → y.text = wComma → M ks m → M (k :: ks) (l ++ y :: m)) → M ks l
theorem KeysSeg.one (k : Nat × Bool) (l : List Tok) (hk : KeySeg k l) : KeysSeg [k] l := fun _ r0 _ => r0 k l hk
theorem KeysSeg.more (k : Nat × Bool) (l : List Tok) (y : Tok) (ks : List (Nat × Bool)) (m : List Tok) (hk : KeySeg k l) (hy : y.text = wComma) (h : KeysSeg ks m) : KeysSeg (k :: ks) (l ++ y :: m) := fun M r0 r1 => r1 k l y ks m hk hy (h M r0 r1)
def FunsSeg (fs : List Fn) (segs : List (List Tok)) (l : List Tok) : Prop := ∀ M : List Fn → List (List Tok) → List Tok → Prop, (∀ (f : Fn) (l : List Tok), FnSeg f l → M [f] [l] l) → (∀ (f : Fn) (l : List Tok) (y : Tok) (fs : List Fn) (segs : List (List Tok)) (m : List Tok), FnSeg f l → y.text = wComma → M fs segs m → M (f :: fs) (l :: segs) (l ++ y :: m)) → M fs segs l
theorem FunsSeg.one (f : Fn) (l : List Tok) (hf : FnSeg f l) : FunsSeg [f] [l] l := fun _ r0 _ => r0 f l hf
theorem FunsSeg.more (f : Fn) (l : List Tok) (y : Tok) (fs : List Fn) (segs : List (List Tok)) (m : List Tok) (hf : FnSeg f l) (hy : y.text = wComma) (h : FunsSeg fs segs m) : FunsSeg (f :: fs) (l :: segs) (l ++ y :: m) := fun M r0 r1 => r1 f l y fs segs m hf hy (h M r0 r1)
def TopSeg (ht : Bool) (tp : Int) (fr : Int) (tl : List Tok) : Prop := ∀ M : Bool → Int → Int → List Tok → Prop, (M false 0 0 []) → (∀ (x : Tok) (y : Tok), x.text = wTop → NTok y → M true (worth y.text) 0 [x, y]) → (∀ (x : Tok) (y : Tok) (a : Tok) (b : Tok), x.text = wTop → NTok y → a.text = wFrom → NTok b → M true (worth y.text) (worth b.text) [x, y, a, b]) → M ht tp fr tl
theorem TopSeg.none  : TopSeg false 0 0 [] := fun _ r0 _ _ => r0 
theorem TopSeg.top (x : Tok) (y : Tok) (hx : x.text = wTop) (hy : NTok y) : TopSeg true (worth y.text) 0 [x, y] := fun _ _ r1 _ => r1 x y hx hy
theorem TopSeg.frm (x : Tok) (y : Tok) (a : Tok) (b : Tok) (hx : x.text = wTop) (hy : NTok y) (ha : a.text = wFrom) (hb : NTok b) : TopSeg true (worth y.text) (worth b.text) [x, y, a, b] := fun _ _ _ r2 => r2 x y a b hx hy ha hb
def isColT (t : Bytes) : Bool := inW t colWs
/-- these texts hold just the columns that q tells -/
def Seen (seen : List Bytes) (q : Nat → Bool) : Prop := ∀ c, c < 3 → seen.contains (colTxt c) = q c
theorem Seen.other {seen : List Bytes} {q : Nat → Bool} {t : Bytes} (h : Seen seen q) (ht : ∀ c, c < 3 → t ≠ colTxt c) : Seen (t :: seen) q := by
  intro d hd
  rw [List.contains_cons, h d hd]
  have : (colTxt d == t) = false := by simp; exact fun h => ht d hd h.symm
  simp [this]
theorem Seen.of {seen : List Bytes} {q q' : Nat → Bool} (h : Seen seen q) (e : ∀ c, q c = q' c) : Seen seen q' := fun c hc => (h c hc).trans (e c)
/-! the whole -/
structure Parts where
  cs : List Nat
  ks : List (Nat × Bool)
  fs : List Fn
  hasTop : Bool
  top : Int
  frm : Int
  bh : List Tok
  bl : List Tok
  o : Tok
  kl : List Tok
  sh : Tok
  segs : List (List Tok)
  fl : List Tok
  tl : List Tok
structure PartsOk (toks : List Tok) (P : Parts) : Prop where
  toks : toks = P.bh ++ (P.bl ++ P.o :: (P.kl ++ P.sh :: (P.fl ++ P.tl)))
  by' : (P.bh = [] ∧ P.bl = [] ∧ P.cs = []) ∨ ∃ x, P.bh = [x] ∧ x.text = wBy ∧ ColsSeg P.cs P.bl
  o : P.o.text = wOrder
  keys : KeysSeg P.ks P.kl
  sh : P.sh.text = wShow
  funs : FunsSeg P.fs P.segs P.fl
  top : TopSeg P.hasTop P.top P.frm P.tl
end Pr
end Go.Proofs.YtcoofnhdbejnpaaGreatDoor

/- Plain functions: the plain form out of the tokens; where a word stands among them; how they are cut. -/
namespace Go.Proofs.YtcoofnhdbejnpaaGreatDoor
namespace Pr
open Pq
/-- without noughts ahead -/
def short : Bytes → Bytes
  | [] => []
  | [a] => [a]
  | a :: b :: r => if a == 48 then short (b :: r) else a :: b :: r
def heads : List Bytes := [wBy, wOrder, wShow, wTop, wFrom]
/-- neither a head word nor a sign -/
structure Inner (x : Tok) : Prop where
  head : x.text ∉ heads
theorem Inner.ne {x : Tok} (h : Inner x) {w : Bytes} (hw : w ∈ heads) : (x.text == w) = false := by
  simp only [beq_eq_false_iff_ne]; exact fun e => h.head (e ▸ hw)
structure Word (x : Tok) : Prop where
  opn : (x.text == wOpen) = false
  cls : (x.text == wClose) = false
  com : (x.text == wComma) = false
theorem Inner.of {x : Tok} {t : Bytes} (h : x.text = t) (ht : t ∉ heads) : Inner x := ⟨by rw [h]; exact ht⟩
theorem Word.of {x : Tok} {t : Bytes} (h : x.text = t) (h1 : (t == wOpen) = false) (h2 : (t == wClose) = false) (h3 : (t == wComma) = false) : Word x := ⟨by rw [h]; exact h1, by rw [h]; exact h2, by rw [h]; exact h3⟩
theorem NTok.numT {x : Tok} (h : NTok x) : numT x.text = true := by
  have h2 := h.dig; have h3 := h.ne
  cases ht : x.text with
  | nil => exact absurd ht h3
  | cons a r => rw [ht] at h2; exact h2 a (by simp)
theorem NTok.not {x : Tok} (h : NTok x) {t : Bytes} (ht : Pr.numT t = false) : x.text ≠ t := by
  intro e; have := h.numT; rw [e, ht] at this; cases this
theorem NTok.word {x : Tok} (h : NTok x) : Word x := ⟨by simpa using h.not (t := wOpen) (by decide), by simpa using h.not (t := wClose) (by decide), by simpa using h.not (t := wComma) (by decide)⟩
theorem col_ok : ∀ k, k < 3 → colTxt k ∉ heads ∧ (colTxt k == wOpen) = false ∧ (colTxt k == wClose) = false ∧ (colTxt k == wComma) = false ∧ short (colTxt k) = colTxt k := by decide
/-! edges, frames, functions -/
/-! lists -/
theorem cols_in {cs : List Nat} {l : List Tok} (h : ColsSeg cs l) : ∀ x ∈ l, Inner x := by
  induction cs, l, h using ColsSeg_ind with
  | one c x hc hx => intro z hz; cases List.mem_singleton.1 hz; exact .of hx (col_ok _ hc).1
  | more c x y cs l hc hx hy h ih =>
    intro z hz
    simp only [List.mem_cons] at hz
    rcases hz with rfl | rfl | hz
    · exact .of hx (col_ok _ hc).1
    · exact .of hy (by decide)
    · exact ih z hz
end Pr
end Go.Proofs.YtcoofnhdbejnpaaGreatDoor

/- Plain functions: the whole query's tokens: the plain form, the places of the words, the cut. -/
namespace Go.Proofs.YtcoofnhdbejnpaaGreatDoor
namespace Pr
open Pq
/-! where a word stands -/
def findT (t : Bytes) (l : List Tok) : Nat := l.findIdx (fun x => x.text == t)
theorem findT_skip {t : Bytes} {a b : List Tok} (h : ∀ x ∈ a, (x.text == t) = false) : findT t (a ++ b) = a.length + findT t b := by
  induction a with
  | nil => simp
  | cons x a ih =>
    have hx := h x (by simp)
    have := ih (fun y hy => h y (by simp [hy]))
    unfold findT at *
    rw [List.cons_append, List.findIdx_cons, hx]
    simp only [cond_false, List.length_cons, this]; omega
theorem findT_hit {t : Bytes} {x : Tok} {b : List Tok} (h : x.text = t) : findT t (x :: b) = 0 := by
  unfold findT; rw [List.findIdx_cons]; simp [h]
theorem mem_heads : wBy ∈ heads ∧ wOrder ∈ heads ∧ wShow ∈ heads ∧ wTop ∈ heads ∧ wFrom ∈ heads := by decide
/-- the tokens' number ahead of order, of show, and of what is behind the FUNCs -/
def Parts.nO (P : Parts) : Nat := P.bh.length + P.bl.length
def Parts.nS (P : Parts) : Nat := P.nO + 1 + P.kl.length
def Parts.nT (P : Parts) : Nat := P.nS + 1 + P.fl.length
theorem PartsOk.by_in {toks : List Tok} {P : Parts} (h : PartsOk toks P) {t : Bytes} (ht : t ∈ heads) (hn : wBy ≠ t) : (∀ x ∈ P.bh, (x.text == t) = false) ∧ ∀ x ∈ P.bl, (x.text == t) = false := by
  rcases h.by' with ⟨h1, h2, _⟩ | ⟨x, h1, h2, h3⟩
  · rw [h1, h2]; exact ⟨(fun _ q => by cases q), (fun _ q => by cases q)⟩
  · rw [h1]
    refine ⟨fun y hy => ?_, fun y hy => (cols_in h3 y hy).ne ht⟩
    cases List.mem_singleton.1 hy
    rw [h2]; simpa using hn
theorem PartsOk.order {toks : List Tok} {P : Parts} (h : PartsOk toks P) : findT wOrder toks = P.nO := by
  have hb := h.by_in mem_heads.2.1 (by decide)
  rw [h.toks, findT_skip hb.1, findT_skip hb.2, findT_hit h.o]; rfl
theorem PartsOk.len {toks : List Tok} {P : Parts} (h : PartsOk toks P) : toks.length = P.nT + P.tl.length := by
  rw [h.toks]; simp only [Parts.nT, Parts.nS, Parts.nO, List.length_append, List.length_cons]; omega
/-! the plain form -/
/-! the cut of the FUNCs -/
/-! many and arg -/
end Pr
end Go.Proofs.YtcoofnhdbejnpaaGreatDoor

/- Plain functions: the pieces of a query's tokens by their places. -/
namespace Go.Proofs.YtcoofnhdbejnpaaGreatDoor
namespace Pr
open Pq
theorem PartsOk.first {toks : List Tok} {P : Parts} (h : PartsOk toks P) (h0 : 0 < toks.length) : (toks[0].text == wBy) = decide (P.bh.length = 1) := by
  rcases h.by' with ⟨h1, h2, _⟩ | ⟨x, h1, h2, h3⟩
  · have ht := h.toks
    rw [h1, h2] at ht
    simp only [List.nil_append] at ht
    have e2 : toks[0].text = wOrder := by
      have : toks[0] = P.o := by simp [ht]
      rw [this]; exact h.o
    rw [e2, h1]; rfl
  · have ht := h.toks
    rw [h1] at ht
    have e2 : toks[0].text = wBy := by
      have : toks[0] = x := by simp [ht]
      rw [this]; exact h2
    rw [e2, h1]; rfl
end Pr
end Go.Proofs.YtcoofnhdbejnpaaGreatDoor

/- Plain functions: the order of a line by the KEYs, the parts by the COLs of by. -/
namespace Go.Proofs.YtcoofnhdbejnpaaGreatDoor
namespace Pv
open Pq Pr
/-- a column, by its number -/
def colV (c : Nat) (r : R3) : Int := if c = 0 then r.1 else if c = 1 then r.2.1 else r.2.2
/-- a column, by its letter -/
def colB (t : Bytes) (r : R3) : Int := if t == [112] then r.1 else if t == [107] then r.2.1 else r.2.2
def beforeK : List (Nat × Bool) → R3 → R3 → Bool
  | [], _, _ => false
  | (c, d) :: ks, a, b => if colV c a = colV c b then beforeK ks a b else if d then decide (colV c b < colV c a) else decide (colV c a < colV c b)
def descNext (l : List Tok) : Bool := match l with | y :: _ => y.text == wDesc | [] => false
/-- does a come ahead of b, by the tokens of the KEYs -/
def beforeT (a b : R3) : List Tok → Bool
  | [] => false
  | x :: r => if isColT x.text = true then (if colB x.text a = colB x.text b then beforeT a b r else if descNext r = true then decide (colB x.text b < colB x.text a) else decide (colB x.text a < colB x.text b)) else beforeT a b r
/-- are two rows in one part -/
def matesC (cs : List Nat) (a b : R3) : Bool := cs.all (fun c => decide (colV c a = colV c b))
def matesT (a b : R3) (l : List Tok) : Bool := l.all (fun x => !(isColT x.text && !(colB x.text a == colB x.text b)))
/-- a copy of a row: which one of its row it is -/
abbrev Cpy := R3 × Nat
def aheadF (ks : List (Nat × Bool)) (a b : Cpy) : Bool :=
  if beforeK ks a.1 b.1 || beforeK ks b.1 a.1 then beforeK ks a.1 b.1
  else if lower a.1 b.1 || lower b.1 a.1 then lower a.1 b.1
  else decide (a.2 < b.2)
/-- the copies of a table that are in one part with a row -/
def copiesF (cs : List Nat) (t : List Chg) (r : R3) : List Cpy := t.flatMap (fun c => if matesC cs c.1 r then (List.range c.2.toNat).map (fun k => (c.1, k)) else [])
def lineF (ks : List (Nat × Bool)) (cs : List Nat) (t : List Chg) (r : R3) : List Cpy := place (aheadF ks) ((0, 0, 0), 0) (copiesF cs t r)
end Pv
end Go.Proofs.YtcoofnhdbejnpaaGreatDoor

/- Plain functions: the copies of a part stand in a line. -/
namespace Go.Proofs.YtcoofnhdbejnpaaGreatDoor
namespace Pv
open Pq Pr
def eqK (ks : List (Nat × Bool)) (a b : R3) : Prop := ∀ k ∈ ks, colV k.1 a = colV k.1 b
theorem eqK.symm {ks : List (Nat × Bool)} {a b : R3} (h : eqK ks a b) : eqK ks b a := fun k hk => (h k hk).symm
theorem eqK.trans {ks : List (Nat × Bool)} {a b c : R3} (h : eqK ks a b) (h2 : eqK ks b c) : eqK ks a c := fun k hk => (h k hk).trans (h2 k hk)
theorem bK_eq {ks : List (Nat × Bool)} {a b : R3} (h : eqK ks a b) : beforeK ks a b = false := by
  induction ks with
  | nil => rfl
  | cons k ks ih =>
    obtain ⟨c, d⟩ := k
    rw [beforeK, if_pos (h (c, d) (by simp))]
    exact ih (fun k hk => h k (by simp [hk]))
theorem bK_left {ks : List (Nat × Bool)} {a b c : R3} (h : eqK ks a b) : beforeK ks a c = beforeK ks b c := by
  induction ks with
  | nil => rfl
  | cons k ks ih =>
    obtain ⟨q, d⟩ := k
    have e : colV q a = colV q b := h (q, d) (by simp)
    rw [beforeK, beforeK, e, ih (fun k hk => h k (by simp [hk]))]
theorem bK_right {ks : List (Nat × Bool)} {a b c : R3} (h : eqK ks a b) : beforeK ks c a = beforeK ks c b := by
  induction ks with
  | nil => rfl
  | cons k ks ih =>
    obtain ⟨q, d⟩ := k
    have e : colV q a = colV q b := h (q, d) (by simp)
    rw [beforeK, beforeK, e, ih (fun k hk => h k (by simp [hk]))]
theorem bK_cons (c : Nat) (d : Bool) (ks : List (Nat × Bool)) (a b : R3) : beforeK ((c, d) :: ks) a b = true ↔ (colV c a = colV c b ∧ beforeK ks a b = true) ∨ (d = true ∧ colV c b < colV c a) ∨ (d = false ∧ colV c a < colV c b) := by
  rw [beforeK]
  by_cases h : colV c a = colV c b
  · rw [if_pos h, h]
    constructor
    · intro q; exact .inl ⟨rfl, q⟩
    · rintro (⟨_, q⟩ | ⟨_, q⟩ | ⟨_, q⟩)
      · exact q
      · omega
      · omega
  · rw [if_neg h]
    cases d
    · simp [h]
    · simp [h]
theorem bK_asym {ks : List (Nat × Bool)} {a b : R3} (h : beforeK ks a b = true) : beforeK ks b a = false := by
  induction ks with
  | nil => cases h
  | cons k ks ih =>
    obtain ⟨c, d⟩ := k
    rw [Bool.eq_false_iff]
    intro h2
    rw [bK_cons] at h h2
    rcases h with ⟨e, h⟩ | ⟨e, h⟩ | ⟨e, h⟩
    · rcases h2 with ⟨_, h2⟩ | ⟨_, h2⟩ | ⟨_, h2⟩
      · rw [ih h] at h2; cases h2
      · omega
      · omega
    · rcases h2 with ⟨_, h2⟩ | ⟨_, h2⟩ | ⟨e2, h2⟩
      · omega
      · omega
      · rw [e] at e2; cases e2
    · rcases h2 with ⟨_, h2⟩ | ⟨e2, h2⟩ | ⟨_, h2⟩
      · omega
      · rw [e] at e2; cases e2
      · omega
theorem bK_tr {ks : List (Nat × Bool)} {a b c : R3} (h : beforeK ks a b = true) (h2 : beforeK ks b c = true) : beforeK ks a c = true := by
  induction ks with
  | nil => cases h
  | cons k ks ih =>
    obtain ⟨q, d⟩ := k
    rw [bK_cons] at h h2 ⊢
    cases d
    · rcases h with ⟨e, h⟩ | ⟨e, h⟩ | ⟨_, h⟩
      · rcases h2 with ⟨e2, h2⟩ | ⟨e2, h2⟩ | ⟨_, h2⟩
        · exact .inl ⟨e.trans e2, ih h h2⟩
        · cases e2
        · exact .inr (.inr ⟨rfl, by omega⟩)
      · cases e
      · rcases h2 with ⟨e2, h2⟩ | ⟨e2, h2⟩ | ⟨_, h2⟩
        · exact .inr (.inr ⟨rfl, by omega⟩)
        · cases e2
        · exact .inr (.inr ⟨rfl, by omega⟩)
    · rcases h with ⟨e, h⟩ | ⟨_, h⟩ | ⟨e, h⟩
      · rcases h2 with ⟨e2, h2⟩ | ⟨_, h2⟩ | ⟨e2, h2⟩
        · exact .inl ⟨e.trans e2, ih h h2⟩
        · exact .inr (.inl ⟨rfl, by omega⟩)
        · cases e2
      · rcases h2 with ⟨e2, h2⟩ | ⟨_, h2⟩ | ⟨e2, h2⟩
        · exact .inr (.inl ⟨rfl, by omega⟩)
        · exact .inr (.inl ⟨rfl, by omega⟩)
        · cases e2
      · cases e
theorem bK_tot {ks : List (Nat × Bool)} {a b : R3} (h : beforeK ks a b = false) (h2 : beforeK ks b a = false) : eqK ks a b := by
  induction ks with
  | nil => intro k hk; cases hk
  | cons k ks ih =>
    obtain ⟨c, d⟩ := k
    have n1 : ¬ beforeK ((c, d) :: ks) a b = true := by rw [h]; exact Bool.noConfusion
    have n2 : ¬ beforeK ((c, d) :: ks) b a = true := by rw [h2]; exact Bool.noConfusion
    rw [bK_cons] at n1 n2
    have e : colV c a = colV c b := by
      refine Classical.byContradiction fun hne => ?_
      cases d
      · rcases Int.lt_or_gt_of_ne hne with q | q
        · exact n1 (.inr (.inr ⟨rfl, q⟩))
        · exact n2 (.inr (.inr ⟨rfl, q⟩))
      · rcases Int.lt_or_gt_of_ne hne with q | q
        · exact n2 (.inr (.inl ⟨rfl, q⟩))
        · exact n1 (.inr (.inl ⟨rfl, q⟩))
    have m1 : beforeK ks a b = false := by
      rw [Bool.eq_false_iff]; exact fun q => n1 (.inl ⟨e, q⟩)
    have m2 : beforeK ks b a = false := by
      rw [Bool.eq_false_iff]; exact fun q => n2 (.inl ⟨e.symm, q⟩)
    intro k hk
    rcases List.mem_cons.1 hk with rfl | hk
    · exact e
    · exact ih m1 m2 k hk
theorem ahead_iff (ks : List (Nat × Bool)) (a b : Cpy) : aheadF ks a b = true ↔ beforeK ks a.1 b.1 = true ∨ (eqK ks a.1 b.1 ∧ (lower a.1 b.1 = true ∨ (a.1 = b.1 ∧ a.2 < b.2))) := by
  unfold aheadF
  cases h1 : beforeK ks a.1 b.1
  · cases h2 : beforeK ks b.1 a.1
    · have he := bK_tot h1 h2
      simp only [Bool.or_false, Bool.false_eq_true, if_false, false_or, he, true_and]
      cases h3 : lower a.1 b.1
      · cases h4 : lower b.1 a.1
        · have e : a.1 = b.1 := Classical.byContradiction fun hne => by
            rcases lower_tot hne with q | q
            · rw [h3] at q; cases q
            · rw [h4] at q; cases q
          simp [e]
        · have hne : a.1 ≠ b.1 := fun e => by rw [e, lower_irr] at h4; cases h4
          simp [hne]
      · simp
    · have hne : ¬ eqK ks a.1 b.1 := fun e => by rw [bK_eq e.symm] at h2; cases h2
      simp [hne]
  · simp
theorem ahead_irr (ks : List (Nat × Bool)) (a : Cpy) : aheadF ks a a = false := by
  rw [Bool.eq_false_iff]; intro h
  rw [ahead_iff] at h
  rcases h with h | ⟨_, h | ⟨_, h⟩⟩
  · have := bK_asym h; rw [h] at this; cases this
  · rw [lower_irr] at h; cases h
  · omega
theorem ahead_tr {ks : List (Nat × Bool)} {a b c : Cpy} (h : aheadF ks a b = true) (h2 : aheadF ks b c = true) : aheadF ks a c = true := by
  rw [ahead_iff] at h h2 ⊢
  rcases h with h | ⟨e, h⟩
  · rcases h2 with h2 | ⟨e2, h2⟩
    · exact .inl (bK_tr h h2)
    · exact .inl (by rw [← bK_right e2]; exact h)
  · rcases h2 with h2 | ⟨e2, h2⟩
    · exact .inl (by rw [bK_left e]; exact h2)
    · refine .inr ⟨e.trans e2, ?_⟩
      rcases h with h | ⟨q, h⟩
      · rcases h2 with h2 | ⟨q2, h2⟩
        · exact .inl (lower_tr h h2)
        · exact .inl (q2 ▸ h)
      · rcases h2 with h2 | ⟨q2, h2⟩
        · exact .inl (q ▸ h2)
        · exact .inr ⟨q.trans q2, by omega⟩
theorem ahead_tot {ks : List (Nat × Bool)} {a b : Cpy} (h : a ≠ b) : aheadF ks a b = true ∨ aheadF ks b a = true := by
  rw [ahead_iff, ahead_iff]
  cases h1 : beforeK ks a.1 b.1
  · cases h2 : beforeK ks b.1 a.1
    · have he := bK_tot h1 h2
      by_cases hr : a.1 = b.1
      · have hn : a.2 ≠ b.2 := fun e => h (Prod.ext hr e)
        rcases Nat.lt_or_gt_of_ne hn with q | q
        · exact .inl (.inr ⟨he, .inr ⟨hr, q⟩⟩)
        · exact .inr (.inr ⟨he.symm, .inr ⟨hr.symm, q⟩⟩)
      · rcases lower_tot hr with q | q
        · exact .inl (.inr ⟨he, .inl q⟩)
        · exact .inr (.inr ⟨he.symm, .inl q⟩)
    · exact .inr (.inl rfl)
  · exact .inl (.inl rfl)
theorem ahead_order (ks : List (Nat × Bool)) (l : List Cpy) : Order (aheadF ks) l := ⟨fun x _ => ahead_irr ks x, fun _ _ _ _ _ _ => ahead_tr, fun _ _ _ _ => ahead_tot⟩
theorem copies_mem (cs : List Nat) (t : List Chg) (r : R3) (x : Cpy) : x ∈ copiesF cs t r ↔ ∃ c ∈ t, matesC cs c.1 r = true ∧ x.1 = c.1 ∧ x.2 < c.2.toNat := by
  unfold copiesF
  rw [List.mem_flatMap]
  constructor
  · rintro ⟨c, hc, hx⟩
    split at hx
    · rename_i hm
      obtain ⟨k, hk, rfl⟩ := List.mem_map.1 hx
      exact ⟨c, hc, hm, rfl, List.mem_range.1 hk⟩
    · cases hx
  · rintro ⟨c, hc, hm, h1, h2⟩
    refine ⟨c, hc, ?_⟩
    rw [if_pos hm]
    exact List.mem_map.2 ⟨x.2, List.mem_range.2 h2, Prod.ext h1.symm rfl⟩
theorem copies_nodup {cs : List Nat} {t : List Chg} (ht : IsTable t) (r : R3) : (copiesF cs t r).Nodup := by
  induction t with
  | nil => simp [copiesF]
  | cons c t ih =>
    have hs := ht.srt
    rw [List.pairwise_cons] at hs
    have ht2 : IsTable t := ⟨hs.2, fun d hd => ht.nz d (by simp [hd])⟩
    have e : copiesF cs (c :: t) r = (if matesC cs c.1 r then (List.range c.2.toNat).map (fun k => (c.1, k)) else []) ++ copiesF cs t r := by simp [copiesF]
    rw [e, List.nodup_append]
    refine ⟨?_, ih ht2, ?_⟩
    · split
      · rw [List.nodup_iff_pairwise_ne, List.pairwise_iff_getElem]
        intro i j hi hj hij e
        have e2 := congrArg Prod.snd e
        simp at e2
        omega
      · simp
    · intro x hx y hy exy
      subst exy
      split at hx
      · obtain ⟨k, _, rfl⟩ := List.mem_map.1 hx
        obtain ⟨d, hd, _, h1, _⟩ := (copies_mem cs t r _).1 hy
        have := hs.1 d hd
        have h1' : c.1 = d.1 := h1
        rw [h1', lower_irr] at this; cases this
      · cases hx
theorem line_spec (ks : List (Nat × Bool)) {cs : List Nat} {t : List Chg} (ht : IsTable t) (r : R3) : (lineF ks cs t r).length = (copiesF cs t r).length ∧ (∀ x, x ∈ lineF ks cs t r ↔ x ∈ copiesF cs t r) ∧ ∀ (i j : Nat) (x y : Cpy), (lineF ks cs t r)[i]? = some x → (lineF ks cs t r)[j]? = some y → i < j → aheadF ks x y = true :=
  place_spec _ (ahead_order ks _) (copies_nodup ht r)
end Pv
end Go.Proofs.YtcoofnhdbejnpaaGreatDoor

/- Plain functions: what the FUNCs are worth; out rows; the view. -/
namespace Go.Proofs.YtcoofnhdbejnpaaGreatDoor
namespace Pv
open Pq Pr
abbrev Val := Option Int
/-- a position that an EDGE means, in a line of n, for the position i -/
def edgeP (e : Edge) (n i : Int) : Int := if e.kind = 0 then 1 else if e.kind = 1 then n else if e.kind = 2 then i else if e.kind = 3 then i - e.num else i + e.num
def col0 (ks : List (Nat × Bool)) : Nat := match ks with | k :: _ => k.1 | [] => 0
/-- is the copy y at the position k in the frame of x at the position i -/
def withinF (ks : List (Nat × Bool)) (f : Frame) (n : Int) (x y : R3) (i k : Int) : Bool :=
  if f.kind = 0 then true
  else if f.kind = 1 then !(beforeK ks x y)
  else if f.kind = 2 then decide (colV (col0 ks) x - colV (col0 ks) y ≤ f.num) && decide (-(colV (col0 ks) x - colV (col0 ks) y) ≤ f.num)
  else decide (edgeP f.frm n i ≤ k) && decide (k ≤ edgeP f.to n i)
/-- the rows in the frame, from the position k on -/
def insideF (ks : List (Nat × Bool)) (f : Frame) (n : Int) (x : R3) (i : Int) : Int → List Cpy → List R3
  | _, [] => []
  | k, y :: l => if withinF ks f n x y.1 i k then y.1 :: insideF ks f n x i (k + 1) l else insideF ks f n x i (k + 1) l
def sumC (c : Nat) (l : List R3) : Int := (l.map (colV c)).sum
def minC (c : Nat) : Int → List R3 → Int
  | m, [] => m
  | m, r :: l => minC c (if colV c r < m then colV c r else m) l
def maxC (c : Nat) : Int → List R3 → Int
  | m, [] => m
  | m, r :: l => maxC c (if m < colV c r then colV c r else m) l
/-- count, sum, min, max, first, last of these rows -/
def overF (k c : Nat) (l : List R3) : Val :=
  if k = 6 then some l.length
  else match l with
    | [] => none
    | r :: q => if k = 7 then some (sumC c (r :: q)) else if k = 8 then some (minC c (colV c r) (r :: q)) else if k = 9 then some (maxC c (colV c r) (r :: q)) else if k = 10 then some (colV c r) else some (colV c ((r :: q).getLast (by simp)))
/-- how many groups of peers stand in the line up to here -/
def groupsF (ks : List (Nat × Bool)) : List Cpy → Int
  | [] => 1
  | [_] => 1
  | a :: b :: l => groupsF ks (b :: l) + (if beforeK ks a.1 b.1 then 1 else 0)
/-- of the position i of n, in m tiles: from the tile t on, of which so many are left -/
def tileG (i n m : Int) : Nat → Int → Int → Int
  | 0, _, _ => m
  | f + 1, t, e =>
    let e2 := e + n / m + (if t ≤ n % m then 1 else 0)
    if i ≤ e2 then t else tileG i n m f (t + 1) e2
def tileF (i n m : Int) : Int := tileG i n m m.toNat 1 0
/-- what a FUNC is worth for the copy at the position i (from 1 on) of a line -/
def valueF (ks : List (Nat × Bool)) (l : List Cpy) (f : Fn) (i : Nat) : Val :=
  match l[i - 1]? with
  | none => none
  | some x =>
    if f.kind = 0 then some i
    else if f.kind = 1 then some (1 + (l.countP (fun y => beforeK ks y.1 x.1) : Nat))
    else if f.kind = 2 then some (groupsF ks (l.take i))
    else if f.kind = 3 then some (tileF i l.length f.num)
    else if f.kind < 6 then
      (let j : Int := if f.kind = 4 then i - f.num else i + f.num
       if j < 1 ∨ (l.length : Int) < j then none else (l[(j - 1).toNat]?).map (fun y => colV f.col y.1))
    else overF f.kind f.col (insideF ks f.frame l.length x.1 i 1 l)
/-- out rows -/
abbrev Out := R3 × List Val × Int
/-- the order of values: none comes ahead -/
def valsLow : List Val → List Val → Bool
  | [], _ => false
  | _, [] => false
  | none :: a, none :: b => valsLow a b
  | none :: _, some _ :: _ => true
  | some _ :: _, none :: _ => false
  | some x :: a, some y :: b => if x = y then valsLow a b else decide (x < y)
def lowO (a b : Out) : Bool := if lower a.1 b.1 || lower b.1 a.1 then lower a.1 b.1 else valsLow a.2.1 b.2.1
/-- one out row more, n times -/
def countedF (l : List Out) (o : R3 × List Val) (n : Int) : List Out :=
  if l.any (fun x => decide (x.1 = o.1) && decide (x.2.1 = o.2)) then l.map (fun x => if x.1 = o.1 ∧ x.2.1 = o.2 then (x.1, x.2.1, x.2.2 + n) else x) else l ++ [(o.1, o.2, n)]
def zOut : Out := ((0, 0, 0), [], 0)
def listF (l : List Out) : List Out := (place lowO zOut l).filter (fun o => !(o.2.2 == 0))
/-- a query, as a view reads it -/
structure Qry where
  cs : List Nat
  ks : List (Nat × Bool)
  fs : List Fn
  top : Int
  frm : Int
/-- is the position shown -/
def topOk (q : Qry) (i : Int) : Bool := decide (q.top < 0) || (decide (q.frm < i) && decide (i ≤ q.frm + q.top))
/-- the copies of one row, from the position i on, each with that sign -/
def rowShown (q : Qry) (l : List Cpy) (r : R3) (sign : Int) : Nat → List Cpy → List Out → List Out
  | _, [], out => out
  | i, x :: m, out => if decide (x.1 = r) && topOk q i then rowShown q l r sign (i + 1) m (countedF out (x.1, q.fs.map (fun f => valueF q.ks l f i)) sign) else rowShown q l r sign (i + 1) m out
def shownF (q : Qry) (t : List Chg) (sign : Int) (out : List Out) : List Out := t.foldl (fun out c => rowShown q (lineF q.ks q.cs t c.1) c.1 sign 1 (lineF q.ks q.cs t c.1) out) out
def rowsF (q : Qry) (t : List Chg) : List Out := listF (shownF q t 1 [])
def appliedF (q : Qry) (t batch : List Chg) : List Out := if (refusedF t batch).1 = 0 then listF (shownF q t (-1) (shownF q (tableF t batch) 1 [])) else []
end Pv
end Go.Proofs.YtcoofnhdbejnpaaGreatDoor

