/- Plain functions: what the tokens of a query that is read without a failure are. -/
import Derived.Test.YtcoofnhdbejnpaaDoorVd
import Derived.Test.YtcoofnhdbejnpaaDoorPlainA
namespace Go.Proofs.YtcoofnhdbejnpaaDoor
namespace Pr
open Pq
/-- these tokens stand from the place i on -/
def At (toks : List Tok) (i : Nat) (l : List Tok) : Prop := ∃ r, toks.drop i = l ++ r
theorem At.append {toks a b : List Tok} {i : Nat} (h1 : At toks i a) (h2 : At toks (i + a.length) b) : At toks i (a ++ b) := by
  obtain ⟨r, e1⟩ := h1
  obtain ⟨r2, e2⟩ := h2
  refine ⟨r2, ?_⟩
  rw [← List.drop_drop, e1, List.drop_left] at e2
  rw [e1, e2, List.append_assoc]
theorem At.one {toks : List Tok} {i : Nat} {x : Tok} (h : toks[i]? = some x) : At toks i [x] := by
  have hl : i < toks.length := by
    rcases Nat.lt_or_ge i toks.length with h' | h'
    · exact h'
    · rw [List.getElem?_eq_none h'] at h; cases h
  rw [List.getElem?_eq_getElem hl] at h
  cases h
  exact ⟨toks.drop (i + 1), by rw [List.drop_eq_getElem_cons hl]; rfl⟩
theorem At.mem {toks l : List Tok} {i : Nat} (h : At toks i l) : ∀ x ∈ l, x ∈ toks := by
  obtain ⟨r, e⟩ := h
  intro x hx
  exact List.mem_of_mem_drop (i := i) (by rw [e]; exact List.mem_append_left _ hx)
theorem At.head {toks r : List Tok} {i : Nat} {x : Tok} (h : At toks i (x :: r)) : toks[i]? = some x := by
  obtain ⟨q, e⟩ := h
  have := congrArg List.head? e
  rw [List.head?_drop] at this
  exact this
def adv (s : PS) (n : Nat) : PS := { s with next := s.next + n }
theorem adv_adv (s : PS) (m n : Nat) : adv (adv s m) n = adv s (m + n) := by simp [adv, Nat.add_assoc]
/-- a token that is a number -/
structure NTok (x : Tok) : Prop where
  len : x.text.length ≤ 2
  dig : ∀ c ∈ x.text, isDig c = true
  ne : x.text ≠ []
structure Fine (toks : List Tok) : Prop where
  good : GoodToks toks
  num : NumToks toks
theorem Fine.ntok {toks : List Tok} (h : Fine toks) {x : Tok} (hm : x ∈ toks) (hn : x.num = true) : NTok x := by
  have h1 := h.good x hm hn
  refine ⟨h1.1, h1.2, fun e => ?_⟩
  have h2 := h.num x hm
  rw [e, hn] at h2; cases h2
theorem takes_ok {toks : List Tok} {t : Bytes} {s : PS} (h : takes toks t s = true) : ∃ x, toks[s.next]? = some x ∧ x.text = t ∧ s.failed = false := by
  unfold takes at h
  cases hx : toks[s.next]? with
  | none => rw [hx] at h; simp at h
  | some x => rw [hx] at h; simp at h; exact ⟨x, rfl, h.2, h.1⟩
theorem want_ok {toks : List Tok} {t : Bytes} {s : PS} (h : (wantS toks t s).failed = false) : ∃ x, x.text = t ∧ At toks s.next [x] ∧ wantS toks t s = adv s 1 ∧ s.failed = false := by
  cases ht : takes toks t s
  · simp [wantS, ht, PS.fail] at h
  · obtain ⟨x, h1, h2, h3⟩ := takes_ok ht
    exact ⟨x, h2, At.one h1, by simp [wantS, ht, PS.step, adv], h3⟩
theorem num_ok {toks : List Tok} (hF : Fine toks) {s : PS} (h : (numS toks s).failed = false) : ∃ x, NTok x ∧ At toks s.next [x] ∧ numS toks s = adv s 1 ∧ numV toks s = worth x.text ∧ s.failed = false := by
  cases ht : isNum toks s
  · simp [numS, ht, PS.fail] at h
  · have h2 := ht
    unfold isNum at h2
    cases hx : toks[s.next]? with
    | none => rw [hx] at h2; simp at h2
    | some x =>
      rw [hx] at h2; simp at h2
      exact ⟨x, hF.ntok (List.mem_of_getElem? hx) h2.2, At.one hx, by simp [numS, ht, PS.step, adv], by simp [numV, ht, hx], h2.1⟩
theorem oneOf_ok {toks : List Tok} {txt : Nat → Bytes} {n : Nat} {s : PS} (h : (oneOfS toks txt n s).failed = false) : ∃ k x, k < n ∧ x.text = txt k ∧ At toks s.next [x] ∧ oneOfS toks txt n s = adv s 1 ∧ oneOfV toks txt n s = k ∧ s.failed = false := by
  cases ht : firstTake toks txt n s with
  | none => simp [oneOfS, ht, PS.fail] at h
  | some k =>
    have hk := List.find?_some ht
    have hm := List.mem_of_find?_eq_some ht
    obtain ⟨x, h1, h2, h3⟩ := takes_ok hk
    exact ⟨k, x, by simpa using hm, h2, At.one h1, by simp [oneOfS, ht, PS.step, adv], by simp [oneOfV, ht], h3⟩
theorem nf_of {f : PS → PS} (h : Stays f) {s : PS} (h2 : (f s).failed = false) : s.failed = false := by
  cases hf : s.failed
  · rfl
  · rw [(h s hf).1] at h2; cases h2
/-! edges, frames, functions -/
def EdgeSeg (e : Edge) (l : List Tok) : Prop := ∀ M : Edge → List Tok → Prop, (∀ (x : Tok), x.text = wStart → M ⟨0, 0⟩ [x]) → (∀ (x : Tok), x.text = wEnd → M ⟨1, 0⟩ [x]) → (∀ (x : Tok), x.text = wHere → M ⟨2, 0⟩ [x]) → (∀ (x : Tok) (y : Tok), NTok x → y.text = wBack → M ⟨3, worth x.text⟩ [x, y]) → (∀ (x : Tok) (y : Tok), NTok x → y.text = wOn → M ⟨4, worth x.text⟩ [x, y]) → M e l
theorem EdgeSeg.start (x : Tok) (h : x.text = wStart) : EdgeSeg ⟨0, 0⟩ [x] := fun _ r0 _ _ _ _ => r0 x h
theorem EdgeSeg.endd (x : Tok) (h : x.text = wEnd) : EdgeSeg ⟨1, 0⟩ [x] := fun _ _ r1 _ _ _ => r1 x h
theorem EdgeSeg.here (x : Tok) (h : x.text = wHere) : EdgeSeg ⟨2, 0⟩ [x] := fun _ _ _ r2 _ _ => r2 x h
theorem EdgeSeg.back (x : Tok) (y : Tok) (hx : NTok x) (hy : y.text = wBack) : EdgeSeg ⟨3, worth x.text⟩ [x, y] := fun _ _ _ _ r3 _ => r3 x y hx hy
theorem EdgeSeg.on (x : Tok) (y : Tok) (hx : NTok x) (hy : y.text = wOn) : EdgeSeg ⟨4, worth x.text⟩ [x, y] := fun _ _ _ _ _ r4 => r4 x y hx hy
theorem EdgeSeg_ind {motive : (e : Edge) → (l : List Tok) → EdgeSeg e l → Prop} (start : ∀ (x : Tok) (h : x.text = wStart), motive ⟨0, 0⟩ [x] (EdgeSeg.start x h)) (endd : ∀ (x : Tok) (h : x.text = wEnd), motive ⟨1, 0⟩ [x] (EdgeSeg.endd x h)) (here : ∀ (x : Tok) (h : x.text = wHere), motive ⟨2, 0⟩ [x] (EdgeSeg.here x h)) (back : ∀ (x : Tok) (y : Tok) (hx : NTok x) (hy : y.text = wBack), motive ⟨3, worth x.text⟩ [x, y] (EdgeSeg.back x y hx hy)) (on : ∀ (x : Tok) (y : Tok) (hx : NTok x) (hy : y.text = wOn), motive ⟨4, worth x.text⟩ [x, y] (EdgeSeg.on x y hx hy)) (e : Edge) (l : List Tok) (h : EdgeSeg e l) : motive e l h := by
  obtain ⟨_, q⟩ := h (fun e l => ∃ h : EdgeSeg e l, motive e l h) (fun x h => ⟨_, start x h⟩) (fun x h => ⟨_, endd x h⟩) (fun x h => ⟨_, here x h⟩) (fun x y hx hy => ⟨_, back x y hx hy⟩) (fun x y hx hy => ⟨_, on x y hx hy⟩)
  exact q
theorem edge_ok {toks : List Tok} (hF : Fine toks) {s : PS} (h : (edgeR toks s).2.failed = false) : ∃ e l, EdgeSeg e l ∧ At toks s.next l ∧ edgeR toks s = (e, adv s l.length) := by
  cases t0 : takes toks wStart s
  · cases t1 : takes toks wEnd s
    · cases t2 : takes toks wHere s
      · have e : edgeR toks s = if takes toks wBack (numS toks s) then (⟨3, numV toks s⟩, (numS toks s).step) else (⟨4, numV toks s⟩, wantS toks wOn (numS toks s)) := by simp [edgeR, t0, t1, t2]
        rw [e] at h ⊢
        cases t3 : takes toks wBack (numS toks s)
        · rw [t3] at h
          simp only [Bool.false_eq_true, if_false] at h ⊢
          obtain ⟨y, h1, h2, h3, h4⟩ := want_ok h
          obtain ⟨x, g1, g2, g3, g4, g5⟩ := num_ok hF h4
          rw [h3, g4, g3]
          rw [g3] at h2
          exact ⟨_, _, .on x y g1 h1, g2.append h2, by rw [adv_adv]; rfl⟩
        · rw [t3] at h
          simp only [if_true] at h ⊢
          obtain ⟨y, h1, h2, h3⟩ := takes_ok t3
          obtain ⟨x, g1, g2, g3, g4, g5⟩ := num_ok hF h3
          rw [g4]
          rw [g3] at h1 ⊢
          exact ⟨_, _, .back x y g1 h2, g2.append (At.one h1), by show _ = (_, adv s (1 + 1)); rw [← adv_adv]; rfl⟩
      · obtain ⟨x, h1, h2, h3⟩ := takes_ok t2
        exact ⟨_, _, .here x h2, At.one h1, by simp [edgeR, t0, t1, t2, adv, PS.step]⟩
    · obtain ⟨x, h1, h2, h3⟩ := takes_ok t1
      exact ⟨_, _, .endd x h2, At.one h1, by simp [edgeR, t0, t1, adv, PS.step]⟩
  · obtain ⟨x, h1, h2, h3⟩ := takes_ok t0
    exact ⟨_, _, .start x h2, At.one h1, by simp [edgeR, t0, adv, PS.step]⟩
def FrameSeg (f : Frame) (l : List Tok) : Prop := ∀ M : Frame → List Tok → Prop, (∀ (x : Tok), x.text = wAll → M ⟨0, 0, ⟨0, 0⟩, ⟨0, 0⟩⟩ [x]) → (∀ (x : Tok), x.text = wPeers → M ⟨1, 0, ⟨0, 0⟩, ⟨0, 0⟩⟩ [x]) → (∀ (x : Tok) (y : Tok), x.text = wNear → NTok y → M ⟨2, worth y.text, ⟨0, 0⟩, ⟨0, 0⟩⟩ [x, y]) → (∀ (a : Edge) (b : Edge) (l : List Tok) (m : List Tok) (x : Tok), EdgeSeg a l → x.text = wTo → EdgeSeg b m → M ⟨3, 0, a, b⟩ (l ++ x :: m)) → M f l
theorem FrameSeg.all (x : Tok) (h : x.text = wAll) : FrameSeg ⟨0, 0, ⟨0, 0⟩, ⟨0, 0⟩⟩ [x] := fun _ r0 _ _ _ => r0 x h
theorem FrameSeg.peers (x : Tok) (h : x.text = wPeers) : FrameSeg ⟨1, 0, ⟨0, 0⟩, ⟨0, 0⟩⟩ [x] := fun _ _ r1 _ _ => r1 x h
theorem FrameSeg.near (x : Tok) (y : Tok) (hx : x.text = wNear) (hy : NTok y) : FrameSeg ⟨2, worth y.text, ⟨0, 0⟩, ⟨0, 0⟩⟩ [x, y] := fun _ _ _ r2 _ => r2 x y hx hy
theorem FrameSeg.edges (a : Edge) (b : Edge) (l : List Tok) (m : List Tok) (x : Tok) (ha : EdgeSeg a l) (hx : x.text = wTo) (hb : EdgeSeg b m) : FrameSeg ⟨3, 0, a, b⟩ (l ++ x :: m) := fun _ _ _ _ r3 => r3 a b l m x ha hx hb
theorem FrameSeg_ind {motive : (f : Frame) → (l : List Tok) → FrameSeg f l → Prop} (all : ∀ (x : Tok) (h : x.text = wAll), motive ⟨0, 0, ⟨0, 0⟩, ⟨0, 0⟩⟩ [x] (FrameSeg.all x h)) (peers : ∀ (x : Tok) (h : x.text = wPeers), motive ⟨1, 0, ⟨0, 0⟩, ⟨0, 0⟩⟩ [x] (FrameSeg.peers x h)) (near : ∀ (x : Tok) (y : Tok) (hx : x.text = wNear) (hy : NTok y), motive ⟨2, worth y.text, ⟨0, 0⟩, ⟨0, 0⟩⟩ [x, y] (FrameSeg.near x y hx hy)) (edges : ∀ (a : Edge) (b : Edge) (l : List Tok) (m : List Tok) (x : Tok) (ha : EdgeSeg a l) (hx : x.text = wTo) (hb : EdgeSeg b m), motive ⟨3, 0, a, b⟩ (l ++ x :: m) (FrameSeg.edges a b l m x ha hx hb)) (f : Frame) (l : List Tok) (h : FrameSeg f l) : motive f l h := by
  obtain ⟨_, q⟩ := h (fun f l => ∃ h : FrameSeg f l, motive f l h) (fun x h => ⟨_, all x h⟩) (fun x h => ⟨_, peers x h⟩) (fun x y hx hy => ⟨_, near x y hx hy⟩) (fun a b l m x ha hx hb => ⟨_, edges a b l m x ha hx hb⟩)
  exact q
theorem frame_ok {toks : List Tok} (hF : Fine toks) {s : PS} (h : (frameR toks s).2.failed = false) : ∃ f l, FrameSeg f l ∧ At toks s.next l ∧ frameR toks s = (f, adv s l.length) := by
  cases t0 : takes toks wAll s
  · cases t1 : takes toks wPeers s
    · cases t2 : takes toks wNear s
      · have e : frameR toks s = (⟨3, 0, (edgeR toks s).1, (edgeR toks (wantS toks wTo (edgeR toks s).2)).1⟩, (edgeR toks (wantS toks wTo (edgeR toks s).2)).2) := by simp [frameR, t0, t1, t2]
        rw [e] at h ⊢
        simp only at h
        obtain ⟨e2, m, h1, h2, h3⟩ := edge_ok hF h
        obtain ⟨x, g1, g2, g3, g4⟩ := want_ok (nf_of (stays_edge toks) h)
        obtain ⟨e1, l, k1, k2, k3⟩ := edge_ok hF g4
        rw [h3]
        rw [g3] at h2 ⊢
        rw [k3] at g2 h2 ⊢
        simp only at g2 h2 ⊢
        refine ⟨_, _, .edges e1 e2 l m x k1 g1 h1, k2.append (At.append (a := [x]) g2 h2), ?_⟩
        rw [adv_adv, adv_adv]
        simp [Nat.add_comm, Nat.add_left_comm]
      · obtain ⟨x, h1, h2, h3⟩ := takes_ok t2
        have e : frameR toks s = (⟨2, numV toks s.step, ⟨0, 0⟩, ⟨0, 0⟩⟩, numS toks s.step) := by simp [frameR, t0, t1, t2]
        rw [e] at h ⊢
        obtain ⟨y, g1, g2, g3, g4, g5⟩ := num_ok hF h
        rw [g3, g4]
        exact ⟨_, _, .near x y h2 g1, (At.one h1).append g2, by show _ = (_, adv s (1 + 1)); rw [← adv_adv]; rfl⟩
    · obtain ⟨x, h1, h2, h3⟩ := takes_ok t1
      exact ⟨_, _, .peers x h2, At.one h1, by simp [frameR, t0, t1, adv, PS.step]⟩
  · obtain ⟨x, h1, h2, h3⟩ := takes_ok t0
    exact ⟨_, _, .all x h2, At.one h1, by simp [frameR, t0, adv, PS.step]⟩
def FnSeg (f : Fn) (l : List Tok) : Prop := ∀ M : Fn → List Tok → Prop, (∀ (k : Nat) (x : Tok), k < 3 → x.text = kindTxt k → M ⟨k, 0, 0, fr0⟩ [x]) → (∀ (x : Tok) (a : Tok) (y : Tok) (b : Tok), x.text = kindTxt 3 → a.text = wOpen → NTok y → b.text = wClose → M ⟨3, 0, worth y.text, fr0⟩ [x, a, y, b]) → (∀ (k : Nat) (c : Nat) (x : Tok) (a : Tok) (p : Tok) (q : Tok) (y : Tok) (b : Tok), 3 < k → k < 6 → c < 3 → x.text = kindTxt k → a.text = wOpen → p.text = colTxt c → q.text = wComma → NTok y → b.text = wClose → M ⟨k, c, worth y.text, fr0⟩ [x, a, p, q, y, b]) → (∀ (k : Nat) (c : Nat) (f : Frame) (x : Tok) (a : Tok) (p : Tok) (q : Tok) (b : Tok) (l : List Tok), 5 < k → k < 12 → c < 3 → x.text = kindTxt k → a.text = wOpen → p.text = colTxt c → q.text = wComma → FrameSeg f l → b.text = wClose → M ⟨k, c, 0, f⟩ (x :: a :: p :: q :: (l ++ [b]))) → M f l
theorem FnSeg.word (k : Nat) (x : Tok) (hk : k < 3) (hx : x.text = kindTxt k) : FnSeg ⟨k, 0, 0, fr0⟩ [x] := fun _ r0 _ _ _ => r0 k x hk hx
theorem FnSeg.tile (x : Tok) (a : Tok) (y : Tok) (b : Tok) (hx : x.text = kindTxt 3) (ha : a.text = wOpen) (hy : NTok y) (hb : b.text = wClose) : FnSeg ⟨3, 0, worth y.text, fr0⟩ [x, a, y, b] := fun _ _ r1 _ _ => r1 x a y b hx ha hy hb
theorem FnSeg.lag (k : Nat) (c : Nat) (x : Tok) (a : Tok) (p : Tok) (q : Tok) (y : Tok) (b : Tok) (h1 : 3 < k) (h2 : k < 6) (hc : c < 3) (hx : x.text = kindTxt k) (ha : a.text = wOpen) (hp : p.text = colTxt c) (hq : q.text = wComma) (hy : NTok y) (hb : b.text = wClose) : FnSeg ⟨k, c, worth y.text, fr0⟩ [x, a, p, q, y, b] := fun _ _ _ r2 _ => r2 k c x a p q y b h1 h2 hc hx ha hp hq hy hb
theorem FnSeg.over (k : Nat) (c : Nat) (f : Frame) (x : Tok) (a : Tok) (p : Tok) (q : Tok) (b : Tok) (l : List Tok) (h1 : 5 < k) (h2 : k < 12) (hc : c < 3) (hx : x.text = kindTxt k) (ha : a.text = wOpen) (hp : p.text = colTxt c) (hq : q.text = wComma) (hf : FrameSeg f l) (hb : b.text = wClose) : FnSeg ⟨k, c, 0, f⟩ (x :: a :: p :: q :: (l ++ [b])) := fun _ _ _ _ r3 => r3 k c f x a p q b l h1 h2 hc hx ha hp hq hf hb
theorem FnSeg_ind {motive : (f : Fn) → (l : List Tok) → FnSeg f l → Prop} (word : ∀ (k : Nat) (x : Tok) (hk : k < 3) (hx : x.text = kindTxt k), motive ⟨k, 0, 0, fr0⟩ [x] (FnSeg.word k x hk hx)) (tile : ∀ (x : Tok) (a : Tok) (y : Tok) (b : Tok) (hx : x.text = kindTxt 3) (ha : a.text = wOpen) (hy : NTok y) (hb : b.text = wClose), motive ⟨3, 0, worth y.text, fr0⟩ [x, a, y, b] (FnSeg.tile x a y b hx ha hy hb)) (lag : ∀ (k : Nat) (c : Nat) (x : Tok) (a : Tok) (p : Tok) (q : Tok) (y : Tok) (b : Tok) (h1 : 3 < k) (h2 : k < 6) (hc : c < 3) (hx : x.text = kindTxt k) (ha : a.text = wOpen) (hp : p.text = colTxt c) (hq : q.text = wComma) (hy : NTok y) (hb : b.text = wClose), motive ⟨k, c, worth y.text, fr0⟩ [x, a, p, q, y, b] (FnSeg.lag k c x a p q y b h1 h2 hc hx ha hp hq hy hb)) (over : ∀ (k : Nat) (c : Nat) (f : Frame) (x : Tok) (a : Tok) (p : Tok) (q : Tok) (b : Tok) (l : List Tok) (h1 : 5 < k) (h2 : k < 12) (hc : c < 3) (hx : x.text = kindTxt k) (ha : a.text = wOpen) (hp : p.text = colTxt c) (hq : q.text = wComma) (hf : FrameSeg f l) (hb : b.text = wClose), motive ⟨k, c, 0, f⟩ (x :: a :: p :: q :: (l ++ [b])) (FnSeg.over k c f x a p q b l h1 h2 hc hx ha hp hq hf hb)) (f : Fn) (l : List Tok) (h : FnSeg f l) : motive f l h := by
  obtain ⟨_, q⟩ := h (fun f l => ∃ h : FnSeg f l, motive f l h) (fun k x hk hx => ⟨_, word k x hk hx⟩) (fun x a y b hx ha hy hb => ⟨_, tile x a y b hx ha hy hb⟩) (fun k c x a p q y b h1 h2 hc hx ha hp hq hy hb => ⟨_, lag k c x a p q y b h1 h2 hc hx ha hp hq hy hb⟩) (fun k c f x a p q b l h1 h2 hc hx ha hp hq hf hb => ⟨_, over k c f x a p q b l h1 h2 hc hx ha hp hq hf hb⟩)
  exact q
theorem colComma_ok {toks : List Tok} {s : PS} (h : (colComma toks s).failed = false) : ∃ c a p q, c < 3 ∧ a.text = wOpen ∧ p.text = colTxt c ∧ q.text = wComma ∧ At toks s.next [a, p, q] ∧ colComma toks s = adv s 3 ∧ oneOfV toks colTxt 3 (wantS toks wOpen s) = c ∧ s.failed = false := by
  unfold colComma at h ⊢
  obtain ⟨q, h1, h2, h3, h4⟩ := want_ok h
  obtain ⟨c, p, g1, g2, g3, g4, g5, g6⟩ := oneOf_ok h4
  obtain ⟨a, k1, k2, k3, k4⟩ := want_ok g6
  rw [g4, k3] at h2
  rw [k3] at g3
  refine ⟨c, a, p, q, g1, k1, g2, h1, (At.append (a := [a]) k2 (At.append (a := [p]) g3 ?_)), ?_, g5, k4⟩
  · simpa [adv] using h2
  · rw [h3, g4, k3, adv_adv, adv_adv]
/-- the place of the number of a tile that is nought, for each FUNC's tokens -/
def tile0 (l : List Tok) : Int := match l with | x :: _ :: y :: _ => if x.text = kindTxt 3 ∧ worth y.text = 0 then (y.at' : Int) else -1 | _ => -1
theorem tile0_not {x : Tok} {l : List Tok} (h : x.text ≠ kindTxt 3) : tile0 (x :: l) = -1 := by
  match l with
  | [] => rfl
  | [_] => rfl
  | _ :: y :: _ => simp [tile0, h]
theorem func_ok {toks : List Tok} (hF : Fine toks) {len : Nat} {s : PS} (h : (funcR toks len s).2.failed = false) : ∃ f l, FnSeg f l ∧ At toks s.next l ∧ funcR toks len s = (f, { adv s l.length with arg := if s.arg = -1 then tile0 l else s.arg }) := by
  have hs : (oneOfS toks kindTxt 12 s).failed = false := by
    cases hf : (oneOfS toks kindTxt 12 s).failed
    · rfl
    · exfalso
      have : firstTake toks kindTxt 12 s = none := by
        unfold oneOfS at hf
        cases ht : firstTake toks kindTxt 12 s with
        | none => rfl
        | some k =>
          rw [ht] at hf
          have hk := List.find?_some ht
          obtain ⟨x, h1, h2, h3⟩ := takes_ok hk
          simp [PS.step, h3] at hf
      simp [funcR, oneOfV, oneOfS, this, PS.fail] at h
  obtain ⟨k, x, hk, hx, ha, e1, e2, hf⟩ := oneOf_ok hs
  have e : funcR toks len s = if k < 3 then (⟨k, 0, 0, fr0⟩, adv s 1) else if k = 3 then tileR toks len (adv s 1) else if k < 6 then lagR toks k (adv s 1) else overR toks k (adv s 1) := by simp only [funcR, e1, e2]
  have hno : ∀ k, k < 12 → k ≠ 3 → kindTxt k ≠ kindTxt 3 := by decide
  have eid : ∀ (s : PS) (n : Nat), { adv s n with arg := if s.arg = -1 then -1 else s.arg } = adv s n := by
    intro s n; by_cases h : s.arg = -1
    · simp [adv, h]
    · simp [adv, h]
  rw [e] at h ⊢
  clear e hs e1 e2
  by_cases hk3 : k < 3
  · rw [if_pos hk3]
    refine ⟨_, _, .word k x hk3 hx, ha, ?_⟩
    rw [tile0_not (by rw [hx]; exact hno k (by omega) (by omega)), eid]; rfl
  rw [if_neg hk3] at h ⊢
  by_cases hke : k = 3
  · subst hke
    rw [if_pos rfl] at h ⊢
    simp only [tileR] at h ⊢
    obtain ⟨b, h1, h2, h3, h4⟩ := want_ok h
    obtain ⟨y, g1, g2, g3, g4, g5⟩ := num_ok hF (s := wantS toks wOpen (adv s 1)) ((tileS_nf toks len _).1.symm.trans h4)
    obtain ⟨a, k1, k2, k3, k4⟩ := want_ok g5
    have en := (tileS_nf toks len (wantS toks wOpen (adv s 1))).2
    rw [g3] at en
    rw [en, k3, adv_adv] at h2
    rw [k3] at g2
    have hy := g2.head
    refine ⟨_, _, .tile x a y b hx k1 g1 h1, At.append (a := [x]) ha (At.append (a := [a]) k2 (At.append (a := [y]) g2 h2)), ?_⟩
    rw [h3, g4]
    congr 1
    unfold tileS
    rw [g4, g3, k3, adv_adv, adv_adv]
    have hp : placeS toks len (adv (adv s 1) 1) = (y.at' : Int) := by
      unfold placeS
      rw [hy]
    rw [hp]
    show adv (if worth y.text = 0 ∧ s.arg = -1 then _ else _) 1 = _
    simp only [tile0, hx, true_and]
    by_cases hw : worth y.text = 0
    · by_cases hg : s.arg = -1
      · simp [hw, hg, adv]
      · simp [hw, hg, adv]
    · by_cases hg : s.arg = -1
      · simp [hw, hg, adv]
      · simp [hw, hg, adv]
  rw [if_neg hke] at h ⊢
  have hx3 : x.text ≠ kindTxt 3 := by rw [hx]; exact hno k hk hke
  by_cases hk6 : k < 6
  · rw [if_pos hk6] at h ⊢
    simp only [lagR] at h ⊢
    obtain ⟨b, h1, h2, h3, h4⟩ := want_ok h
    obtain ⟨y, g1, g2, g3, g4, g5⟩ := num_ok hF h4
    obtain ⟨c, a, p, q, k0, k1, k2, k3, k4, k5, k6, k7⟩ := colComma_ok g5
    rw [g3, k5, adv_adv, adv_adv] at h2
    rw [k5, adv_adv] at g2
    refine ⟨_, _, .lag k c x a p q y b (by omega) hk6 k0 hx k1 k2 k3 g1 h1, At.append (a := [x]) ha (At.append (a := [a, p, q]) k4 (At.append (a := [y]) g2 h2)), ?_⟩
    rw [h3, g4, g3, k5, k6, tile0_not hx3, eid, adv_adv, adv_adv, adv_adv]; rfl
  · rw [if_neg hk6] at h ⊢
    simp only [overR] at h ⊢
    obtain ⟨b, h1, h2, h3, h4⟩ := want_ok h
    obtain ⟨f, l, g1, g2, g3⟩ := frame_ok hF h4
    obtain ⟨c, a, p, q, k0, k1, k2, k3, k4, k5, k6, k7⟩ := colComma_ok (nf_of (stays_frame toks) h4)
    rw [g3, k5, adv_adv] at h2
    rw [k5, adv_adv] at g2
    simp only [adv_adv] at h2
    refine ⟨_, _, .over k c f x a p q b l (by omega) hk k0 hx k1 k2 k3 g1 h1, At.append (a := [x]) ha (At.append (a := [a, p, q]) k4 (At.append g2 (by rw [show s.next + [x].length + [a, p, q].length + l.length = (adv s (1 + (3 + l.length))).next from by simp [adv]; omega]; exact h2))), ?_⟩
    rw [h3, g3, k5, k6, tile0_not hx3, eid, adv_adv, adv_adv, adv_adv]
    simp only [List.length_cons, List.length_append, List.length_nil]
    congr 2
    omega
end Pr
end Go.Proofs.YtcoofnhdbejnpaaDoor
