/- Plain functions: what the tokens of a query that is read without a failure are: lists, and the whole. -/
import Derived.Test.YtcoofnhdbejnpaaDoorVe
namespace Go.Proofs.YtcoofnhdbejnpaaDoor
namespace Pr
open Pq
def ColsSeg (cs : List Nat) (l : List Tok) : Prop := ∀ M : List Nat → List Tok → Prop, (∀ (c : Nat) (x : Tok), c < 3 → x.text = colTxt c → M [c] [x]) → (∀ (c : Nat) (x : Tok) (y : Tok) (cs : List Nat) (l : List Tok), c < 3 → x.text = colTxt c → y.text = wComma → M cs l → M (c :: cs) (x :: y :: l)) → M cs l
theorem ColsSeg.one (c : Nat) (x : Tok) (hc : c < 3) (hx : x.text = colTxt c) : ColsSeg [c] [x] := fun _ r0 _ => r0 c x hc hx
theorem ColsSeg.more (c : Nat) (x : Tok) (y : Tok) (cs : List Nat) (l : List Tok) (hc : c < 3) (hx : x.text = colTxt c) (hy : y.text = wComma) (h : ColsSeg cs l) : ColsSeg (c :: cs) (x :: y :: l) := fun M r0 r1 => r1 c x y cs l hc hx hy (h M r0 r1)
theorem ColsSeg_ind {motive : (cs : List Nat) → (l : List Tok) → ColsSeg cs l → Prop} (one : ∀ (c : Nat) (x : Tok) (hc : c < 3) (hx : x.text = colTxt c), motive [c] [x] (ColsSeg.one c x hc hx)) (more : ∀ (c : Nat) (x : Tok) (y : Tok) (cs : List Nat) (l : List Tok) (hc : c < 3) (hx : x.text = colTxt c) (hy : y.text = wComma) (h : ColsSeg cs l), motive cs l h → motive (c :: cs) (x :: y :: l) (ColsSeg.more c x y cs l hc hx hy h)) (cs : List Nat) (l : List Tok) (h : ColsSeg cs l) : motive cs l h := by
  obtain ⟨_, q⟩ := h (fun cs l => ∃ h : ColsSeg cs l, motive cs l h) (fun c x hc hx => ⟨_, one c x hc hx⟩) (fun c x y cs l hc hx hy ⟨h, q_h⟩ => ⟨_, more c x y cs l hc hx hy h q_h⟩)
  exact q
def KeySeg (k : Nat × Bool) (l : List Tok) : Prop := ∀ M : Nat × Bool → List Tok → Prop, (∀ (c : Nat) (x : Tok), c < 3 → x.text = colTxt c → M (c, false) [x]) → (∀ (c : Nat) (x : Tok) (y : Tok), c < 3 → x.text = colTxt c → y.text = wDesc → M (c, true) [x, y]) → M k l
theorem KeySeg.asc (c : Nat) (x : Tok) (hc : c < 3) (hx : x.text = colTxt c) : KeySeg (c, false) [x] := fun _ r0 _ => r0 c x hc hx
theorem KeySeg.desc (c : Nat) (x : Tok) (y : Tok) (hc : c < 3) (hx : x.text = colTxt c) (hy : y.text = wDesc) : KeySeg (c, true) [x, y] := fun _ _ r1 => r1 c x y hc hx hy
theorem KeySeg_ind {motive : (k : Nat × Bool) → (l : List Tok) → KeySeg k l → Prop} (asc : ∀ (c : Nat) (x : Tok) (hc : c < 3) (hx : x.text = colTxt c), motive (c, false) [x] (KeySeg.asc c x hc hx)) (desc : ∀ (c : Nat) (x : Tok) (y : Tok) (hc : c < 3) (hx : x.text = colTxt c) (hy : y.text = wDesc), motive (c, true) [x, y] (KeySeg.desc c x y hc hx hy)) (k : Nat × Bool) (l : List Tok) (h : KeySeg k l) : motive k l h := by
  obtain ⟨_, q⟩ := h (fun k l => ∃ h : KeySeg k l, motive k l h) (fun c x hc hx => ⟨_, asc c x hc hx⟩) (fun c x y hc hx hy => ⟨_, desc c x y hc hx hy⟩)
  exact q
theorem KeySeg_inv {k : Nat × Bool} {l : List Tok} (h : KeySeg k l) : (∃ c x, k = (c, false) ∧ l = [x] ∧ c < 3 ∧ x.text = colTxt c) ∨ ∃ c x y, k = (c, true) ∧ l = [x, y] ∧ c < 3 ∧ x.text = colTxt c ∧ y.text = wDesc :=
  h (fun k l => (∃ c x, k = (c, false) ∧ l = [x] ∧ c < 3 ∧ x.text = colTxt c) ∨ ∃ c x y, k = (c, true) ∧ l = [x, y] ∧ c < 3 ∧ x.text = colTxt c ∧ y.text = wDesc) (fun c x hc hx => .inl ⟨c, x, rfl, rfl, hc, hx⟩) (fun c x y hc hx hy => .inr ⟨c, x, y, rfl, rfl, hc, hx, hy⟩)
def KeysSeg (ks : List (Nat × Bool)) (l : List Tok) : Prop := ∀ M : List (Nat × Bool) → List Tok → Prop, (∀ (k : Nat × Bool) (l : List Tok), KeySeg k l → M [k] l) → (∀ (k : Nat × Bool) (l : List Tok) (y : Tok) (ks : List (Nat × Bool)) (m : List Tok), KeySeg k l → y.text = wComma → M ks m → M (k :: ks) (l ++ y :: m)) → M ks l
theorem KeysSeg.one (k : Nat × Bool) (l : List Tok) (hk : KeySeg k l) : KeysSeg [k] l := fun _ r0 _ => r0 k l hk
theorem KeysSeg.more (k : Nat × Bool) (l : List Tok) (y : Tok) (ks : List (Nat × Bool)) (m : List Tok) (hk : KeySeg k l) (hy : y.text = wComma) (h : KeysSeg ks m) : KeysSeg (k :: ks) (l ++ y :: m) := fun M r0 r1 => r1 k l y ks m hk hy (h M r0 r1)
theorem KeysSeg_ind {motive : (ks : List (Nat × Bool)) → (l : List Tok) → KeysSeg ks l → Prop} (one : ∀ (k : Nat × Bool) (l : List Tok) (hk : KeySeg k l), motive [k] l (KeysSeg.one k l hk)) (more : ∀ (k : Nat × Bool) (l : List Tok) (y : Tok) (ks : List (Nat × Bool)) (m : List Tok) (hk : KeySeg k l) (hy : y.text = wComma) (h : KeysSeg ks m), motive ks m h → motive (k :: ks) (l ++ y :: m) (KeysSeg.more k l y ks m hk hy h)) (ks : List (Nat × Bool)) (l : List Tok) (h : KeysSeg ks l) : motive ks l h := by
  obtain ⟨_, q⟩ := h (fun ks l => ∃ h : KeysSeg ks l, motive ks l h) (fun k l hk => ⟨_, one k l hk⟩) (fun k l y ks m hk hy ⟨h, q_h⟩ => ⟨_, more k l y ks m hk hy h q_h⟩)
  exact q
def FunsSeg (fs : List Fn) (segs : List (List Tok)) (l : List Tok) : Prop := ∀ M : List Fn → List (List Tok) → List Tok → Prop, (∀ (f : Fn) (l : List Tok), FnSeg f l → M [f] [l] l) → (∀ (f : Fn) (l : List Tok) (y : Tok) (fs : List Fn) (segs : List (List Tok)) (m : List Tok), FnSeg f l → y.text = wComma → M fs segs m → M (f :: fs) (l :: segs) (l ++ y :: m)) → M fs segs l
theorem FunsSeg.one (f : Fn) (l : List Tok) (hf : FnSeg f l) : FunsSeg [f] [l] l := fun _ r0 _ => r0 f l hf
theorem FunsSeg.more (f : Fn) (l : List Tok) (y : Tok) (fs : List Fn) (segs : List (List Tok)) (m : List Tok) (hf : FnSeg f l) (hy : y.text = wComma) (h : FunsSeg fs segs m) : FunsSeg (f :: fs) (l :: segs) (l ++ y :: m) := fun M r0 r1 => r1 f l y fs segs m hf hy (h M r0 r1)
theorem FunsSeg_ind {motive : (fs : List Fn) → (segs : List (List Tok)) → (l : List Tok) → FunsSeg fs segs l → Prop} (one : ∀ (f : Fn) (l : List Tok) (hf : FnSeg f l), motive [f] [l] l (FunsSeg.one f l hf)) (more : ∀ (f : Fn) (l : List Tok) (y : Tok) (fs : List Fn) (segs : List (List Tok)) (m : List Tok) (hf : FnSeg f l) (hy : y.text = wComma) (h : FunsSeg fs segs m), motive fs segs m h → motive (f :: fs) (l :: segs) (l ++ y :: m) (FunsSeg.more f l y fs segs m hf hy h)) (fs : List Fn) (segs : List (List Tok)) (l : List Tok) (h : FunsSeg fs segs l) : motive fs segs l h := by
  obtain ⟨_, q⟩ := h (fun fs segs l => ∃ h : FunsSeg fs segs l, motive fs segs l h) (fun f l hf => ⟨_, one f l hf⟩) (fun f l y fs segs m hf hy ⟨h, q_h⟩ => ⟨_, more f l y fs segs m hf hy h q_h⟩)
  exact q
def TopSeg (ht : Bool) (tp : Int) (fr : Int) (tl : List Tok) : Prop := ∀ M : Bool → Int → Int → List Tok → Prop, (M false 0 0 []) → (∀ (x : Tok) (y : Tok), x.text = wTop → NTok y → M true (worth y.text) 0 [x, y]) → (∀ (x : Tok) (y : Tok) (a : Tok) (b : Tok), x.text = wTop → NTok y → a.text = wFrom → NTok b → M true (worth y.text) (worth b.text) [x, y, a, b]) → M ht tp fr tl
theorem TopSeg.none  : TopSeg false 0 0 [] := fun _ r0 _ _ => r0 
theorem TopSeg.top (x : Tok) (y : Tok) (hx : x.text = wTop) (hy : NTok y) : TopSeg true (worth y.text) 0 [x, y] := fun _ _ r1 _ => r1 x y hx hy
theorem TopSeg.frm (x : Tok) (y : Tok) (a : Tok) (b : Tok) (hx : x.text = wTop) (hy : NTok y) (ha : a.text = wFrom) (hb : NTok b) : TopSeg true (worth y.text) (worth b.text) [x, y, a, b] := fun _ _ _ r2 => r2 x y a b hx hy ha hb
theorem TopSeg_ind {motive : (ht : Bool) → (tp : Int) → (fr : Int) → (tl : List Tok) → TopSeg ht tp fr tl → Prop} (none : motive false 0 0 [] TopSeg.none) (top : ∀ (x : Tok) (y : Tok) (hx : x.text = wTop) (hy : NTok y), motive true (worth y.text) 0 [x, y] (TopSeg.top x y hx hy)) (frm : ∀ (x : Tok) (y : Tok) (a : Tok) (b : Tok) (hx : x.text = wTop) (hy : NTok y) (ha : a.text = wFrom) (hb : NTok b), motive true (worth y.text) (worth b.text) [x, y, a, b] (TopSeg.frm x y a b hx hy ha hb)) (ht : Bool) (tp : Int) (fr : Int) (tl : List Tok) (h : TopSeg ht tp fr tl) : motive ht tp fr tl h := by
  obtain ⟨_, q⟩ := h (fun ht tp fr tl => ∃ h : TopSeg ht tp fr tl, motive ht tp fr tl h) ⟨_, none⟩ (fun x y hx hy => ⟨_, top x y hx hy⟩) (fun x y a b hx hy ha hb => ⟨_, frm x y a b hx hy ha hb⟩)
  exact q
def isColT (t : Bytes) : Bool := inW t colWs
/-- the place of the first COL that stands there a second time -/
def twF (seen : List Bytes) : List Tok → Int
  | [] => -1
  | x :: r => if isColT x.text && seen.contains x.text then (x.at' : Int) else twF (x.text :: seen) r
def headAt (l : List Tok) : Int := match l with | x :: _ => (x.at' : Int) | [] => -1
def manyG (n : Nat) (m : Int) : List (List Tok) → Int
  | [] => m
  | l :: r => manyG (n + 1) (if n = 4 then headAt l else m) r
def argG (a : Int) : List (List Tok) → Int
  | [] => a
  | l :: r => argG (if a = -1 then tile0 l else a) r
theorem isColT_col {c : Nat} (h : c < 3) : isColT (colTxt c) = true := by
  match c, h with
  | 0, _ => decide
  | 1, _ => decide
  | 2, _ => decide
theorem colTxt_inj {c d : Nat} (hc : c < 3) (hd : d < 3) (h : colTxt c = colTxt d) : c = d := by
  have : ∀ c, c < 3 → ∀ d, d < 3 → colTxt c = colTxt d → c = d := by decide
  exact this c hc d hd h
theorem comma_col {c : Nat} (h : c < 3) : wComma ≠ colTxt c := by
  have : ∀ c, c < 3 → wComma ≠ colTxt c := by decide
  exact this c h
theorem desc_col {c : Nat} (h : c < 3) : wDesc ≠ colTxt c := by
  have : ∀ c, c < 3 → wDesc ≠ colTxt c := by decide
  exact this c h
/-- these texts hold just the columns that q tells -/
def Seen (seen : List Bytes) (q : Nat → Bool) : Prop := ∀ c, c < 3 → seen.contains (colTxt c) = q c
theorem Seen.col {seen : List Bytes} {q : Nat → Bool} {c : Nat} (h : Seen seen q) (hc : c < 3) : Seen (colTxt c :: seen) (fun d => q d || d == c) := by
  intro d hd
  rw [List.contains_cons, h d hd]
  by_cases e : d = c
  · subst e; simp
  · have : (colTxt d == colTxt c) = false := by simp; exact fun h => e (colTxt_inj hd hc h)
    simp [this, e]
theorem Seen.other {seen : List Bytes} {q : Nat → Bool} {t : Bytes} (h : Seen seen q) (ht : ∀ c, c < 3 → t ≠ colTxt c) : Seen (t :: seen) q := by
  intro d hd
  rw [List.contains_cons, h d hd]
  have : (colTxt d == t) = false := by simp; exact fun h => ht d hd h.symm
  simp [this]
theorem Seen.of {seen : List Bytes} {q q' : Nat → Bool} (h : Seen seen q) (e : ∀ c, q c = q' c) : Seen seen q' := fun c hc => (h c hc).trans (e c)
theorem twF_col {seen : List Bytes} {q : Nat → Bool} {c : Nat} {x : Tok} {r : List Tok} (h : Seen seen q) (hc : c < 3) (hx : x.text = colTxt c) : twF seen (x :: r) = if q c then (x.at' : Int) else twF (colTxt c :: seen) r := by
  simp only [twF, hx, isColT_col hc, h c hc, Bool.true_and]
theorem twF_comma {seen : List Bytes} {y : Tok} {r : List Tok} (hy : y.text = wComma) : twF seen (y :: r) = twF (wComma :: seen) r := by
  have : isColT wComma = false := by decide
  simp [twF, hy, this]
theorem twF_desc {seen : List Bytes} {y : Tok} {r : List Tok} (hy : y.text = wDesc) : twF seen (y :: r) = twF (wDesc :: seen) r := by
  have : isColT wDesc = false := by decide
  simp [twF, hy, this]
theorem place_at {toks : List Tok} {len : Nat} {s : PS} {x : Tok} {r : List Tok} (h : At toks s.next (x :: r)) : placeS toks len s = (x.at' : Int) := by
  unfold placeS; rw [h.head]
theorem byStep_ok {toks : List Tok} {len : Nat} {s : PS} (h : (byStep toks len s).failed = false) : ∃ c x, c < 3 ∧ x.text = colTxt c ∧ At toks s.next [x] ∧ byStep toks len s = { adv s 1 with by' := s.by' ++ [c], twice := if s.twice = -1 ∧ hasC s.by' c = true then (x.at' : Int) else s.twice } := by
  rw [(byStep_nf toks len s).1] at h
  obtain ⟨c, x, h1, h2, h3, h4, h5, h6⟩ := oneOf_ok h
  refine ⟨c, x, h1, h2, h3, ?_⟩
  have e : colAt toks s = c := h5
  unfold byStep byMark
  rw [e, h4, place_at h3]
  cases hc : hasC s.by' c
  · simp [adv]
  · by_cases ht : s.twice = -1
    · simp [adv, twiceS, ht]
    · simp [adv, twiceS, ht]
theorem byR_ok {toks : List Tok} {len : Nat} {s : PS} (h : (byR toks len s).failed = false) : ∃ cs l, ColsSeg cs l ∧ At toks s.next l ∧ ∀ seen, Seen seen (hasC s.by') → byR toks len s = { adv s l.length with by' := s.by' ++ cs, twice := if s.twice = -1 then twF seen l else s.twice } := by
  induction s using byR_ind (toks := toks) (len := len) with
  | case1 s ht ih =>
    rw [byR_eq, dif_pos ht] at h
    obtain ⟨cs, l, g1, g2, g3⟩ := ih h
    obtain ⟨y, k1, k2, k3⟩ := takes_ok ht
    obtain ⟨c, x, h1, h2, h3, h4⟩ := byStep_ok k3
    rw [h4] at k1 g2
    refine ⟨c :: cs, x :: y :: l, .more c x y cs l h1 h2 k2 g1, At.append (a := [x]) h3 (At.append (a := [y]) (At.one k1) g2), fun seen hs => ?_⟩
    rw [byR_eq, dif_pos ht]
    have hs2 : Seen (wComma :: colTxt c :: seen) (hasC (byStep toks len s).step.by') := by
      refine ((hs.col h1).other (fun d hd => comma_col hd)).of (fun d => ?_)
      rw [h4]
      simp [hasC, PS.step]
      rfl
    rw [g3 _ hs2, twF_col hs h1 h2, twF_comma k2, h4]
    cases hc : hasC s.by' c
    · simp [adv, PS.step, Nat.add_assoc]; omega
    · by_cases ht : s.twice = -1
      · simp [adv, PS.step, ht, Nat.add_assoc]
        omega
      · simp [adv, PS.step, ht, Nat.add_assoc]; omega
  | case2 s ht =>
    rw [byR_eq, dif_neg ht] at h
    obtain ⟨c, x, h1, h2, h3, h4⟩ := byStep_ok h
    refine ⟨[c], [x], .one c x h1 h2, h3, fun seen hs => ?_⟩
    rw [byR_eq, dif_neg ht, twF_col hs h1 h2, h4]
    cases hc : hasC s.by' c
    · simp [twF]
    · simp
theorem keyStep_ok {toks : List Tok} {len : Nat} {s : PS} (h : (keyStep toks len s).failed = false) : ∃ k x r, KeySeg k (x :: r) ∧ At toks s.next (x :: r) ∧ keyStep toks len s = { adv s (x :: r).length with keys := s.keys ++ [k], twice := if s.twice = -1 ∧ hasK s.keys k.1 = true then (x.at' : Int) else s.twice } := by
  rw [(keyStep_nf toks len s).1] at h
  have hs := nf_of (stays_take toks wDesc) h
  obtain ⟨c, x, h1, h2, h3, h4, h5, h6⟩ := oneOf_ok hs
  have e : colAt toks s = c := h5
  cases ht : takes toks wDesc (adv s 1)
  · refine ⟨(c, false), x, [], .asc c x h1 h2, h3, ?_⟩
    unfold keyStep keyMark keySt keyDesc
    rw [e, h4, place_at h3, ht]
    simp only [takeS, ht]
    cases hc : hasK s.keys c
    · simp [adv]
    · by_cases ht : s.twice = -1
      · simp [adv, twiceS, ht]
      · simp [adv, twiceS, ht]
  · obtain ⟨y, k1, k2, k3⟩ := takes_ok ht
    refine ⟨(c, true), x, [y], .desc c x y h1 h2 k2, At.append (a := [x]) h3 (At.one k1), ?_⟩
    unfold keyStep keyMark keySt keyDesc
    rw [e, h4, place_at h3, ht]
    simp only [takeS, ht]
    cases hc : hasK s.keys c
    · simp [adv, PS.step]
    · by_cases ht : s.twice = -1
      · simp [adv, twiceS, ht, PS.step]
      · simp [adv, twiceS, ht, PS.step]
theorem twF_key {seen : List Bytes} {q : Nat → Bool} {k : Nat × Bool} {x : Tok} {r m : List Tok} (h : KeySeg k (x :: r)) (hs : Seen seen q) : ∃ seen', Seen seen' (fun d => q d || d == k.1) ∧ twF seen (x :: r ++ m) = if q k.1 then (x.at' : Int) else twF seen' m := by
  rcases KeySeg_inv h with ⟨c, x', rfl, e, h1, h2⟩ | ⟨c, x', y, rfl, e, h1, h2, h3⟩
  · cases e
    exact ⟨_, hs.col h1, twF_col hs h1 h2⟩
  · cases e
    refine ⟨_, (hs.col h1).other (fun d hd => desc_col hd), ?_⟩
    show twF seen (x :: (y :: m)) = _
    rw [twF_col hs h1 h2, twF_desc h3]
theorem keyR_ok {toks : List Tok} {len : Nat} {s : PS} (h : (keyR toks len s).failed = false) : ∃ ks l, KeysSeg ks l ∧ At toks s.next l ∧ ∀ seen, Seen seen (hasK s.keys) → keyR toks len s = { adv s l.length with keys := s.keys ++ ks, twice := if s.twice = -1 then twF seen l else s.twice } := by
  induction s using keyR_ind (toks := toks) (len := len) with
  | case1 s ht ih =>
    rw [keyR_eq, dif_pos ht] at h
    obtain ⟨ks, l, g1, g2, g3⟩ := ih h
    obtain ⟨y, k1, k2, k3⟩ := takes_ok ht
    obtain ⟨k, x, r, h1, h3, h4⟩ := keyStep_ok k3
    rw [h4] at k1 g2
    refine ⟨k :: ks, (x :: r) ++ y :: l, .more k (x :: r) y ks l h1 k2 g1, h3.append (At.append (a := [y]) (At.one k1) g2), fun seen hs => ?_⟩
    rw [keyR_eq, dif_pos ht]
    obtain ⟨seen', q1, q2⟩ := twF_key (m := y :: l) h1 hs
    have hs2 : Seen (wComma :: seen') (hasK (keyStep toks len s).step.keys) := by
      refine (q1.other (fun d hd => comma_col hd)).of (fun d => ?_)
      rw [h4]
      simp [hasK, PS.step]
      rw [Bool.beq_comm]
    rw [g3 _ hs2, q2, twF_comma k2, h4]
    cases hc : hasK s.keys k.1
    · simp [adv, PS.step, Nat.add_assoc]; omega
    · by_cases ht : s.twice = -1
      · simp [adv, PS.step, ht, Nat.add_assoc]
        omega
      · simp [adv, PS.step, ht, Nat.add_assoc]; omega
  | case2 s ht =>
    rw [keyR_eq, dif_neg ht] at h
    obtain ⟨k, x, r, h1, h3, h4⟩ := keyStep_ok h
    refine ⟨[k], x :: r, .one k _ h1, h3, fun seen hs => ?_⟩
    obtain ⟨seen', q1, q2⟩ := twF_key (m := []) h1 hs
    rw [List.append_nil] at q2
    rw [keyR_eq, dif_neg ht, q2, h4]
    cases hc : hasK s.keys k.1
    · simp [twF]
    · simp
theorem fnSeg_head {f : Fn} {l : List Tok} (h : FnSeg f l) : ∃ x r, l = x :: r := by
  induction f, l, h using FnSeg_ind <;> exact ⟨_, _, rfl⟩
theorem funStep_ok {toks : List Tok} (hF : Fine toks) {len : Nat} {s : PS} (h : (funStep toks len s).failed = false) : ∃ f l, FnSeg f l ∧ At toks s.next l ∧ funStep toks len s = { adv s l.length with funcs := s.funcs ++ [f], many := if s.funcs.length = 4 then headAt l else s.many, arg := if s.arg = -1 then tile0 l else s.arg } := by
  obtain ⟨f, l, h1, h2, h3⟩ := func_ok hF (s := funMark toks len s) h
  rw [(funMark_nf toks len s).2] at h2
  refine ⟨f, l, h1, h2, ?_⟩
  unfold funStep
  rw [h3]
  obtain ⟨x, r, rfl⟩ := fnSeg_head h1
  unfold funMark
  rw [place_at h2]
  by_cases h4 : s.funcs.length = 4
  · simp [h4, adv, headAt]
  · simp [h4, adv]
theorem funR_ok {toks : List Tok} (hF : Fine toks) {len : Nat} {s : PS} (h : (funR toks len s).failed = false) : ∃ fs segs l, FunsSeg fs segs l ∧ At toks s.next l ∧ funR toks len s = { adv s l.length with funcs := s.funcs ++ fs, many := manyG s.funcs.length s.many segs, arg := argG s.arg segs } := by
  induction s using funR_ind (toks := toks) (len := len) with
  | case1 s ht ih =>
    rw [funR_eq, dif_pos ht] at h
    obtain ⟨fs, segs, l, g1, g2, g3⟩ := ih h
    obtain ⟨y, k1, k2, k3⟩ := takes_ok ht
    obtain ⟨f, m, h1, h2, h3⟩ := funStep_ok hF k3
    rw [h3] at k1 g2
    refine ⟨f :: fs, m :: segs, m ++ y :: l, .more f m y fs segs l h1 k2 g1, h2.append (At.append (a := [y]) (At.one k1) g2), ?_⟩
    rw [funR_eq, dif_pos ht, g3, h3]
    simp [adv, PS.step, Nat.add_assoc, manyG, argG]
    omega
  | case2 s ht =>
    rw [funR_eq, dif_neg ht] at h
    obtain ⟨f, m, h1, h2, h3⟩ := funStep_ok hF h
    refine ⟨[f], [m], m, .one f m h1, h2, ?_⟩
    rw [funR_eq, dif_neg ht, h3]
    simp [manyG, argG]
/-! the whole -/
structure Parts where
  cs : List Nat
  ks : List (Nat × Bool)
  fs : List Fn
  hasTop : Bool
  top : Int
  frm : Int
  bh : List Tok
  bl : List Tok
  o : Tok
  kl : List Tok
  sh : Tok
  segs : List (List Tok)
  fl : List Tok
  tl : List Tok
structure PartsOk (toks : List Tok) (P : Parts) : Prop where
  toks : toks = P.bh ++ (P.bl ++ P.o :: (P.kl ++ P.sh :: (P.fl ++ P.tl)))
  by' : (P.bh = [] ∧ P.bl = [] ∧ P.cs = []) ∨ ∃ x, P.bh = [x] ∧ x.text = wBy ∧ ColsSeg P.cs P.bl
  o : P.o.text = wOrder
  keys : KeysSeg P.ks P.kl
  sh : P.sh.text = wShow
  funs : FunsSeg P.fs P.segs P.fl
  top : TopSeg P.hasTop P.top P.frm P.tl
def Parts.twice (P : Parts) : Int := if twF [] P.bl = -1 then twF [] P.kl else twF [] P.bl
theorem stays_top1 (toks : List Tok) : Stays (top1 toks) := fun s hs => stays_num toks { s with hasTop := true } hs
theorem parse_ok {toks : List Tok} (hF : Fine toks) {len : Nat} (h : (queryS toks len ps0).failed = false) : ∃ P, PartsOk toks P ∧ queryS toks len ps0 = ⟨toks.length, false, P.cs, P.ks, P.fs, P.hasTop, P.top, P.frm, manyG 0 (-1) P.segs, P.twice, argG (-1) P.segs⟩ := by
  have hn : ¬ (q4 toks len ps0).next < toks.length := by
    intro hn; simp [queryS, endS, hn, PS.fail] at h
  have e0 : queryS toks len ps0 = q4 toks len ps0 := by simp [queryS, endS, hn]
  rw [e0] at h ⊢
  clear e0
  have h3 : (q3 toks len ps0).failed = false := by
    unfold q4 at h
    cases ht : takes toks wTop (q3 toks len ps0)
    · rw [ht] at h; exact h
    · obtain ⟨_, _, _, k3⟩ := takes_ok ht; exact k3
  have h3w := nf_of (stays_funR toks len) (s := wantS toks wShow (q2 toks len ps0)) h3
  obtain ⟨sh, s1, s2, s3, s4⟩ := want_ok h3w
  have h2w := nf_of (stays_keyR toks len) (s := wantS toks wOrder (q1 toks len ps0)) s4
  obtain ⟨o, o1, o2, o3, o4⟩ := want_ok h2w
  obtain ⟨cs, bh, bl, hby, hat, hq1⟩ : ∃ cs bh bl, ((bh = [] ∧ bl = [] ∧ cs = []) ∨ ∃ x, bh = [x] ∧ x.text = wBy ∧ ColsSeg cs bl) ∧ At toks 0 (bh ++ bl) ∧ q1 toks len ps0 = { adv ps0 (bh ++ bl).length with by' := cs, twice := twF [] bl } := by
    unfold q1 at o4 ⊢
    cases ht : takes toks wBy ps0
    · exact ⟨[], [], [], .inl ⟨rfl, rfl, rfl⟩, ⟨toks, rfl⟩, rfl⟩
    · rw [ht] at o4
      simp only [if_true] at o4 ⊢
      obtain ⟨x, k1, k2, k3⟩ := takes_ok ht
      obtain ⟨cs, l, g1, g2, g3⟩ := byR_ok o4
      refine ⟨cs, [x], l, .inr ⟨x, rfl, k2, g1⟩, At.append (a := [x]) (At.one k1) (by simpa [PS.step, ps0] using g2), ?_⟩
      rw [g3 [] (fun c hc => rfl)]
      simp [ps0, PS.step, adv, Nat.add_comm]
  obtain ⟨ks, kl, k1, k2, k3⟩ := keyR_ok (s := wantS toks wOrder (q1 toks len ps0)) s4
  have hq2 := k3 [] (by rw [o3, hq1]; exact fun c hc => rfl)
  have hq2' : q2 toks len ps0 = { adv ps0 ((bh ++ bl).length + 1 + kl.length) with by' := cs, keys := ks, twice := if twF [] bl = -1 then twF [] kl else twF [] bl } := by
    unfold q2
    rw [hq2, o3, hq1]
    simp [adv, ps0]
  rw [o3, hq1] at k2
  rw [hq1] at o2
  rw [hq2'] at s2
  obtain ⟨fs, segs, fl, f1, f2, f3⟩ := funR_ok hF (s := wantS toks wShow (q2 toks len ps0)) h3
  have hq3 : q3 toks len ps0 = { adv ps0 ((bh ++ bl).length + 1 + kl.length + 1 + fl.length) with by' := cs, keys := ks, funcs := fs, many := manyG 0 (-1) segs, twice := if twF [] bl = -1 then twF [] kl else twF [] bl, arg := argG (-1) segs } := by
    unfold q3
    rw [f3, s3, hq2']
    simp [adv, ps0]
  rw [s3, hq2'] at f2
  have A3 : At toks 0 ((bh ++ bl) ++ ([o] ++ (kl ++ ([sh] ++ fl)))) := by
    refine hat.append (At.append (by simpa [adv, ps0] using o2) (At.append (by simpa [adv, ps0] using k2) (At.append ?_ ?_)))
    · simpa [adv, ps0, Nat.add_assoc] using s2
    · simpa [adv, ps0, Nat.add_assoc] using f2
  have A3l : ((bh ++ bl) ++ ([o] ++ (kl ++ ([sh] ++ fl)))).length = (bh ++ bl).length + 1 + kl.length + 1 + fl.length := by simp; omega
  obtain ⟨ht, tp, fr, tl, t1, t2, hq4⟩ : ∃ ht tp fr tl, TopSeg ht tp fr tl ∧ At toks ((bh ++ bl).length + 1 + kl.length + 1 + fl.length) tl ∧ q4 toks len ps0 = { adv ps0 ((bh ++ bl).length + 1 + kl.length + 1 + fl.length + tl.length) with by' := cs, keys := ks, funcs := fs, hasTop := ht, top := tp, frm := fr, many := manyG 0 (-1) segs, twice := if twF [] bl = -1 then twF [] kl else twF [] bl, arg := argG (-1) segs } := by
    unfold q4 at h ⊢
    cases ht : takes toks wTop (q3 toks len ps0)
    · exact ⟨false, 0, 0, [], .none, ⟨_, rfl⟩, by simp only [Bool.false_eq_true, if_false]; rw [hq3]; rfl⟩
    · rw [ht] at h
      simp only [if_true] at h ⊢
      obtain ⟨x, x1, x2, x3⟩ := takes_ok ht
      rw [hq3] at h x1 ⊢
      generalize hN : (bh ++ bl).length + 1 + kl.length + 1 + fl.length = N at *
      have x1' : At toks N [x] := At.one (by simpa [adv, ps0] using x1)
      unfold topS at h ⊢
      cases hu : takes toks wFrom (top1 toks (PS.step { adv ps0 N with by' := cs, keys := ks, funcs := fs, many := manyG 0 (-1) segs, twice := if twF [] bl = -1 then twF [] kl else twF [] bl, arg := argG (-1) segs }))
      · rw [hu] at h
        simp only [Bool.false_eq_true, if_false] at h ⊢
        obtain ⟨y, y1, y2, y3, y4, y5⟩ := num_ok hF (s := { PS.step { adv ps0 N with by' := cs, keys := ks, funcs := fs, many := manyG 0 (-1) segs, twice := if twF [] bl = -1 then twF [] kl else twF [] bl, arg := argG (-1) segs } with hasTop := true }) h
        refine ⟨true, worth y.text, 0, [x, y], .top x y x2 y1, At.append (a := [x]) x1' (by simpa [adv, ps0, PS.step] using y2), ?_⟩
        unfold top1
        rw [y3, y4]
        simp [adv, ps0, PS.step]
      · rw [hu] at h
        simp only [if_true] at h ⊢
        obtain ⟨a, a1, a2, a3⟩ := takes_ok hu
        obtain ⟨y, y1, y2, y3, y4, y5⟩ := num_ok hF (s := { PS.step { adv ps0 N with by' := cs, keys := ks, funcs := fs, many := manyG 0 (-1) segs, twice := if twF [] bl = -1 then twF [] kl else twF [] bl, arg := argG (-1) segs } with hasTop := true }) a3
        obtain ⟨b, b1, b2, b3, b4, b5⟩ := num_ok hF h
        unfold top1 at a1 b2 b3 b4 ⊢
        rw [b3, b4]
        rw [y3] at a1 b2 ⊢
        rw [y4]
        refine ⟨true, worth y.text, worth b.text, [x, y, a, b], .frm x y a b x2 y1 a2 b1, At.append (a := [x]) x1' (At.append (a := [y]) (by simpa [adv, ps0, PS.step] using y2) (At.append (a := [a]) (At.one (by simpa [adv, ps0, PS.step] using a1)) (by simpa [adv, ps0, PS.step] using b2))), ?_⟩
        simp [adv, ps0, PS.step]
  rw [hq4] at hn
  have A4 : At toks 0 (((bh ++ bl) ++ ([o] ++ (kl ++ ([sh] ++ fl)))) ++ tl) := A3.append (by rw [A3l, Nat.zero_add]; exact t2)
  obtain ⟨r, er⟩ := A4
  rw [List.drop_zero] at er
  have hl := congrArg List.length er
  have hr : r = [] := by
    apply List.eq_nil_of_length_eq_zero
    simp only [adv, ps0] at hn
    rw [List.length_append, List.length_append, A3l] at hl
    omega
  subst hr
  refine ⟨⟨cs, ks, fs, ht, tp, fr, bh, bl, o, kl, sh, segs, fl, tl⟩, ⟨by simpa using er, hby, o1, k1, s1, f1, t1⟩, ?_⟩
  rw [hq4, hl]
  simp [adv, ps0, Parts.twice]
  omega
end Pr
end Go.Proofs.YtcoofnhdbejnpaaDoor
