/- Plain mathematics: what is written, token by token, with blanks here and there. -/
import Derived.Test.YtcoofnhdbejnpaaGreatDoorG06
import Derived.Test.YtcoofnhdbejnpaaGreatDoorG01
namespace Go.Proofs.YtcoofnhdbejnpaaGreatDoor
namespace Pk
open Pq (Bytes)
/-- a token as it is meant: a word (with a blank ahead), a token that is glued on, a number (with a blank ahead, or glued on) -/
structure Kd where
  v : Sum Bytes (Sum Bytes (Nat × Bool))
abbrev Kd.w (t : Bytes) : Kd := ⟨.inl t⟩
abbrev Kd.g (t : Bytes) : Kd := ⟨.inr (.inl t)⟩
abbrev Kd.n (k : Nat) (b : Bool) : Kd := ⟨.inr (.inr (k, b))⟩
theorem Kd_ind {motive : Kd → Prop} (w : ∀ t, motive (.w t)) (g : ∀ t, motive (.g t)) (n : ∀ k b, motive (.n k b)) (k : Kd) : motive k := by
  obtain ⟨x | x | ⟨a, b⟩⟩ := k
  · exact w x
  · exact g x
  · exact n a b
/-- the token's text, as it may be written -/
def Kd.Text : Kd → Bytes → Prop
  | ⟨.inl t⟩, x => x = t
  | ⟨.inr (.inl t)⟩, x => x = t
  | ⟨.inr (.inr (k, _))⟩, x => x = Pq.numTxt k ∨ (k < 10 ∧ x = 48 :: Pq.numTxt k)
/-- the blanks ahead of it; first: nothing stands ahead -/
def Kd.Sep (first : Bool) : Kd → Bytes → Prop
  | ⟨.inl _⟩, x => (first = true ∨ x ≠ []) ∧ ∀ c ∈ x, Pq.isBlk c = true
  | ⟨.inr (.inl _)⟩, x => ∀ c ∈ x, Pq.isBlk c = true
  | ⟨.inr (.inr (_, b))⟩, x => (b = true → x ≠ []) ∧ ∀ c ∈ x, Pq.isBlk c = true
/-- its plain form: blank and text -/
def Kd.psep (first : Bool) : Kd → Bytes
  | ⟨.inl _⟩ => if first then [] else [32]
  | ⟨.inr (.inl _)⟩ => []
  | ⟨.inr (.inr (_, b))⟩ => if b then [32] else []
def Kd.ptext : Kd → Bytes
  | ⟨.inl t⟩ => t
  | ⟨.inr (.inl t)⟩ => t
  | ⟨.inr (.inr (k, _))⟩ => Pq.numTxt k
/-- the plain form of a row of tokens behind a text -/
def plainOf (p : Bytes) : List Kd → Bytes
  | [] => p
  | k :: r => plainOf (p ++ k.psep p.isEmpty ++ k.ptext) r
/-- from x on the tokens ks have been written, and y has come of it; I: blanks and texts of the raw form -/
def Em (ks : List Kd) (x : TS) (I : List (Bytes × Bytes)) (y : TS) : Prop := ∀ M : List Kd → TS → List (Bytes × Bytes) → TS → Prop, (∀ x y : TS, y.raw = x.raw → y.plain = x.plain → M [] x [] y) → (∀ (k : Kd) (ks : List Kd) (x y z : TS) (s t : Bytes) (I : List (Bytes × Bytes)), k.Sep x.plain.isEmpty s → k.Text t → y.raw = x.raw ++ s ++ t → y.plain = x.plain ++ k.psep x.plain.isEmpty ++ k.ptext → M ks y I z → M (k :: ks) x ((s, t) :: I) z) → M ks x I y
theorem Em.nil {x y : TS} (hr : y.raw = x.raw) (hp : y.plain = x.plain) : Em [] x [] y := fun _ r0 _ => r0 x y hr hp
theorem Em.cons {k : Kd} {ks : List Kd} {x y z : TS} {s t : Bytes} {I : List (Bytes × Bytes)} (hs : k.Sep x.plain.isEmpty s) (ht : k.Text t) (hr : y.raw = x.raw ++ s ++ t) (hp : y.plain = x.plain ++ k.psep x.plain.isEmpty ++ k.ptext) (h : Em ks y I z) : Em (k :: ks) x ((s, t) :: I) z := fun M r0 r1 => r1 k ks x y z s t I hs ht hr hp (h M r0 r1)
theorem Em_ind {motive : (ks : List Kd) → (x : TS) → (I : List (Bytes × Bytes)) → (y : TS) → Em ks x I y → Prop} (nil : ∀ {x y : TS} (hr : y.raw = x.raw) (hp : y.plain = x.plain), motive [] x [] y (Em.nil hr hp))
    (cons : ∀ {k : Kd} {ks : List Kd} {x y z : TS} {s t : Bytes} {I : List (Bytes × Bytes)} (hs : k.Sep x.plain.isEmpty s) (ht : k.Text t) (hr : y.raw = x.raw ++ s ++ t) (hp : y.plain = x.plain ++ k.psep x.plain.isEmpty ++ k.ptext) (h : Em ks y I z), motive ks y I z h → motive (k :: ks) x ((s, t) :: I) z (Em.cons hs ht hr hp h)) (ks : List Kd) (x : TS) (I : List (Bytes × Bytes)) (y : TS) (h : Em ks x I y) : motive ks x I y h := by
  obtain ⟨_, q⟩ := h (fun ks x I y => ∃ h : Em ks x I y, motive ks x I y h) (fun _ _ hr hp => ⟨_, nil hr hp⟩) (fun _ _ _ _ _ _ _ _ hs ht hr hp ⟨h, q⟩ => ⟨_, cons hs ht hr hp h q⟩)
  exact q
theorem Em.app {ks ls : List Kd} {x y z : TS} {I J : List (Bytes × Bytes)} (h : Em ks x I y) (h2 : Em ls y J z) : Em (ks ++ ls) x (I ++ J) z := by
  induction ks, x, I, y, h using Em_ind generalizing z J with
  | @nil x y hr hp =>
    induction ls, y, J, z, h2 using Em_ind with
    | nil hr' hp' => exact .nil (hr'.trans hr) (hp'.trans hp)
    | cons hs ht hr' hp' h _ => rw [hp] at hs hp'; rw [hr] at hr'; exact .cons hs ht hr' hp' h
  | cons hs ht hr hp _ ih => exact .cons hs ht hr hp (ih h2)
/-- y came of x by writing the tokens ks -/
def Wr (ks : List Kd) (x y : TS) : Prop := ∃ I, Em ks x I y
theorem Wr.nil (x : TS) : Wr [] x x := ⟨[], .nil rfl rfl⟩
theorem Wr.app {ks ls : List Kd} {x y z : TS} (h : Wr ks x y) (h2 : Wr ls y z) : Wr (ks ++ ls) x z := by
  obtain ⟨I, h⟩ := h; obtain ⟨J, h2⟩ := h2; exact ⟨I ++ J, h.app h2⟩
theorem Wr.word (l t : Bytes) (x : TS) : Wr [.w t] x (wordS l t x) := by
  refine ⟨[(pre x ++ (if nxt l x.a 6 = 1 then [10, 32] else []), t)], .cons ?_ rfl ?_ ?_ (.nil rfl rfl)⟩
  · refine ⟨?_, ?_⟩
    · cases hp : x.plain with
      | nil => exact .inl rfl
      | cons a b => right; simp [pre, hp]
    · intro c hc
      have h32 : Pq.isBlk 32 = true := by decide
      have h10 : Pq.isBlk 10 = true := by decide
      rcases List.mem_append.1 hc with hc | hc
      · unfold pre at hc; split at hc
        · cases hc
        · simp at hc; subst hc; exact h32
      · split at hc
        · simp at hc; rcases hc with rfl | rfl
          · exact h10
          · exact h32
        · cases hc
  · simp [wordS]
  · show x.plain ++ pre x ++ t = _
    unfold pre Kd.psep Kd.ptext
    cases hp : x.plain <;> simp
theorem Wr.number (l : Bytes) (n : Nat) (b : Bool) (x : TS) : Wr [.n n b] x (numberS l n b x) := by
  refine ⟨[(blankB b, nought l n x ++ Pq.numTxt n)], .cons ?_ ?_ ?_ ?_ (.nil rfl rfl)⟩
  · have h32 : Pq.isBlk 32 = true := by decide
    refine ⟨fun hb => by subst hb; simp [blankB], fun c hc => ?_⟩
    unfold blankB at hc; split at hc
    · simp at hc; subst hc; exact h32
    · cases hc
  · unfold nought; split
    · rename_i h; exact .inr ⟨h.1, rfl⟩
    · exact .inl rfl
  · simp [numberS]
  · cases b <;> simp [numberS, Kd.psep, Kd.ptext, blankB]
/-! the tokens of each part of a query -/
def kCol (c : Nat × Bool) : List Kd := .w (Pq.colTxt c.1) :: (if c.2 then [.w Pq.wDesc] else [])
/-- with , between each two -/
def kJoin : List (List Kd) → List Kd
  | [] => []
  | [x] => x
  | x :: y :: r => x ++ (.g [44] :: kJoin (y :: r))
def kEdge (e : Pq.Edge) : List Kd := if e.kind = 0 then [.w Pq.wStart] else if e.kind = 1 then [.w Pq.wEnd] else if e.kind = 2 then [.w Pq.wHere] else if e.kind = 3 then [.n e.num.toNat true, .w Pq.wBack] else [.n e.num.toNat true, .w Pq.wOn]
def kFrame (f : Pq.Frame) : List Kd := if f.kind = 0 then [.w Pq.wAll] else if f.kind = 1 then [.w Pq.wPeers] else if f.kind = 2 then [.w Pq.wNear, .n f.num.toNat true] else kEdge f.frm ++ (.w Pq.wTo :: kEdge f.to)
def kFn (f : Pq.Fn) : List Kd :=
  if f.kind < 3 then [.w (Pq.kindTxt f.kind)]
  else if f.kind = 3 then [.w (Pq.kindTxt 3), .g [40], .n f.num.toNat false, .g [41]]
  else if f.kind < 6 then [.w (Pq.kindTxt f.kind), .g [40], .g (Pq.colTxt f.col), .g [44], .n f.num.toNat true, .g [41]]
  else [.w (Pq.kindTxt f.kind), .g [40], .g (Pq.colTxt f.col), .g [44]] ++ kFrame f.frame ++ [.g [41]]
end Pk
end Go.Proofs.YtcoofnhdbejnpaaGreatDoor

/- Plain mathematics: what the maker of queries writes. -/
namespace Go.Proofs.YtcoofnhdbejnpaaGreatDoor
namespace Pk
open Pq (Bytes)
theorem Em.plain {ks : List Kd} {x y : TS} {I : List (Bytes × Bytes)} (h : Em ks x I y) : y.plain = plainOf x.plain ks := by
  induction ks, x, I, y, h using Em_ind with
  | nil hr hp => simpa [plainOf] using hp
  | cons hs ht hr hp _ ih => rw [ih, hp]; rfl
theorem Em.raw {ks : List Kd} {x y : TS} {I : List (Bytes × Bytes)} (h : Em ks x I y) : y.raw = x.raw ++ Pq.flat I := by
  induction ks, x, I, y, h using Em_ind with
  | nil hr hp => simpa [Pq.flat] using hr
  | cons hs ht hr hp _ ih => rw [ih, hr]; simp [Pq.flat]
theorem Wr.one {k : Kd} {ks : List Kd} {x y z : TS} (h : Wr [k] x y) (h2 : Wr ks y z) : Wr (k :: ks) x z := h.app h2
structure GoodCols (cs : List (Nat × Bool)) : Prop where
  ne : cs ≠ []
  nodup : (cs.map Prod.fst).Nodup
  lt : ∀ c ∈ cs, c.1 < 3
structure GoodEdge (e : Pq.Edge) : Prop where
  kind : e.kind < 5
  zero : e.kind < 3 → e.num = 0
  num : Pq.goodNum e.num
def e0 : Pq.Edge := ⟨0, 0⟩
def GoodFrame (f : Pq.Frame) : Prop := ∀ M : Pq.Frame → Prop, (M ⟨0, 0, e0, e0⟩) → (M ⟨1, 0, e0, e0⟩) → (∀ (n : Nat), n < 100 → M ⟨2, n, e0, e0⟩) → (∀ (a : Pq.Edge) (b : Pq.Edge), GoodEdge a → GoodEdge b → M ⟨3, 0, a, b⟩) → M f
theorem GoodFrame.all  : GoodFrame ⟨0, 0, e0, e0⟩ := fun _ r0 _ _ _ => r0 
theorem GoodFrame.peers  : GoodFrame ⟨1, 0, e0, e0⟩ := fun _ _ r1 _ _ => r1 
theorem GoodFrame.near (n : Nat) (h : n < 100) : GoodFrame ⟨2, n, e0, e0⟩ := fun _ _ _ r2 _ => r2 n h
theorem GoodFrame.between (a : Pq.Edge) (b : Pq.Edge) (ha : GoodEdge a) (hb : GoodEdge b) : GoodFrame ⟨3, 0, a, b⟩ := fun _ _ _ _ r3 => r3 a b ha hb
theorem GoodFrame_ind {motive : (f : Pq.Frame) → GoodFrame f → Prop} (all : motive ⟨0, 0, e0, e0⟩ GoodFrame.all) (peers : motive ⟨1, 0, e0, e0⟩ GoodFrame.peers) (near : ∀ (n : Nat) (h : n < 100), motive ⟨2, n, e0, e0⟩ (GoodFrame.near n h)) (between : ∀ (a : Pq.Edge) (b : Pq.Edge) (ha : GoodEdge a) (hb : GoodEdge b), motive ⟨3, 0, a, b⟩ (GoodFrame.between a b ha hb)) (f : Pq.Frame) (h : GoodFrame f) : motive f h := by
  obtain ⟨_, q⟩ := h (fun f => ∃ h : GoodFrame f, motive f h) ⟨_, all⟩ ⟨_, peers⟩ (fun n h => ⟨_, near n h⟩) (fun a b ha hb => ⟨_, between a b ha hb⟩)
  exact q
def GoodFn (f : Pq.Fn) : Prop := ∀ M : Pq.Fn → Prop, (∀ (k : Nat), k < 3 → M ⟨k, 0, 0, Pq.fr0⟩) → (∀ (n : Nat), n < 100 → 0 < n → M ⟨3, 0, n, Pq.fr0⟩) → (∀ (k : Nat) (c : Nat) (n : Nat), (k = 4 ∨ k = 5) → c < 3 → n < 100 → M ⟨k, c, n, Pq.fr0⟩) → (∀ (k : Nat) (c : Nat) (f : Pq.Frame), 6 ≤ k → k < 12 → c < 3 → GoodFrame f → M ⟨k, c, 0, f⟩) → M f
theorem GoodFn.plain (k : Nat) (h : k < 3) : GoodFn ⟨k, 0, 0, Pq.fr0⟩ := fun _ r0 _ _ _ => r0 k h
theorem GoodFn.tile (n : Nat) (h : n < 100) (h0 : 0 < n) : GoodFn ⟨3, 0, n, Pq.fr0⟩ := fun _ _ r1 _ _ => r1 n h h0
theorem GoodFn.lag (k : Nat) (c : Nat) (n : Nat) (hk : (k = 4 ∨ k = 5)) (hc : c < 3) (h : n < 100) : GoodFn ⟨k, c, n, Pq.fr0⟩ := fun _ _ _ r2 _ => r2 k c n hk hc h
theorem GoodFn.over (k : Nat) (c : Nat) (f : Pq.Frame) (h6 : 6 ≤ k) (hk : k < 12) (hc : c < 3) (hf : GoodFrame f) : GoodFn ⟨k, c, 0, f⟩ := fun _ _ _ _ r3 => r3 k c f h6 hk hc hf
theorem GoodFn_ind {motive : (f : Pq.Fn) → GoodFn f → Prop} (plain : ∀ (k : Nat) (h : k < 3), motive ⟨k, 0, 0, Pq.fr0⟩ (GoodFn.plain k h)) (tile : ∀ (n : Nat) (h : n < 100) (h0 : 0 < n), motive ⟨3, 0, n, Pq.fr0⟩ (GoodFn.tile n h h0)) (lag : ∀ (k : Nat) (c : Nat) (n : Nat) (hk : (k = 4 ∨ k = 5)) (hc : c < 3) (h : n < 100), motive ⟨k, c, n, Pq.fr0⟩ (GoodFn.lag k c n hk hc h)) (over : ∀ (k : Nat) (c : Nat) (f : Pq.Frame) (h6 : 6 ≤ k) (hk : k < 12) (hc : c < 3) (hf : GoodFrame f), motive ⟨k, c, 0, f⟩ (GoodFn.over k c f h6 hk hc hf)) (f : Pq.Fn) (h : GoodFn f) : motive f h := by
  obtain ⟨_, q⟩ := h (fun f => ∃ h : GoodFn f, motive f h) (fun k h => ⟨_, plain k h⟩) (fun n h h0 => ⟨_, tile n h h0⟩) (fun k c n hk hc h => ⟨_, lag k c n hk hc h⟩) (fun k c f h6 hk hc hf => ⟨_, over k c f h6 hk hc hf⟩)
  exact q
end Pk
end Go.Proofs.YtcoofnhdbejnpaaGreatDoor

/- Plain mathematics: what is written so falls into its tokens again. -/
namespace Go.Proofs.YtcoofnhdbejnpaaGreatDoor
namespace Pk
open Pq (Bytes)
def Kd.isSign : Kd → Bool
  | ⟨.inr (.inl t)⟩ => match t with | [c] => Pq.isSgn c | _ => false
  | _ => false
def Kd.apart : Kd → Prop
  | ⟨.inl _⟩ => True
  | ⟨.inr (.inl t)⟩ => (Kd.g t).isSign = true
  | ⟨.inr (.inr (_, b))⟩ => b = true
def Kd.Ok : Kd → Prop
  | ⟨.inl t⟩ => Pq.Tk t
  | ⟨.inr (.inl t)⟩ => Pq.Tk t
  | ⟨.inr (.inr (k, _))⟩ => k < 100
/-- no two tokens run into each other -/
def Adj (ps : Bool) : List Kd → Prop
  | [] => True
  | k :: r => (ps = true ∨ k.apart) ∧ k.Ok ∧ Adj k.isSign r
theorem numTxt_dig (k : Nat) (h : k < 100) : Pq.numTxt k ≠ [] ∧ (Pq.numTxt (k : Int)).length ≤ 2 ∧ ∀ c ∈ Pq.numTxt k, Pq.isDig c = true := by
  have hall : ∀ k : Fin 100, Pq.numTxt (k.val : Int) ≠ [] ∧ (Pq.numTxt (k.val : Int)).length ≤ 2 ∧ ∀ c ∈ Pq.numTxt (k.val : Int), Pq.isDig c = true := by decide +kernel
  exact hall ⟨k, h⟩
theorem text_tk {k : Kd} {t : Bytes} (hk : k.Ok) (ht : k.Text t) : Pq.Tk t := by
  induction k using Kd_ind with
  | w x => rw [show t = x from ht]; exact hk
  | g x => rw [show t = x from ht]; exact hk
  | n k b =>
    obtain ⟨h0, h2, hd⟩ := numTxt_dig k hk
    rcases ht with rfl | ⟨h10, rfl⟩
    · exact .digits _ h0 h2 hd
    · refine .digits _ (by simp) ?_ ?_
      · have := numTxt_small h10; simp [this]
      · intro c hc
        rcases List.mem_cons.1 hc with rfl | hc
        · decide
        · exact hd c hc
theorem ptext_ne {k : Kd} (hk : k.Ok) : k.ptext ≠ [] := by
  induction k using Kd_ind with
  | w x => obtain ⟨a, t', e, _⟩ := Pq.tk_blk (show Pq.Tk x from hk); simp [Kd.ptext, e]
  | g x => obtain ⟨a, t', e, _⟩ := Pq.tk_blk (show Pq.Tk x from hk); simp [Kd.ptext, e]
  | n k b => exact (numTxt_dig k hk).1
theorem isSign_g {t : Bytes} (h : (Kd.g t).isSign = true) : ∃ c, t = [c] ∧ Pq.isSgn c = true := by
  match t, h with
  | [c], h => exact ⟨c, rfl, h⟩
  | [], h => simp [Kd.isSign] at h
  | _ :: _ :: _, h => simp [Kd.isSign] at h
theorem Em.wrote {ks : List Kd} {x y : TS} {I : List (Bytes × Bytes)} (h : Em ks x I y) : ∀ ps, Adj ps ks → Pq.Wrote I ∧ (x.plain ≠ [] → ps = false → ∀ c r, Pq.flat I = c :: r → Pq.isOther c) := by
  induction ks, x, I, y, h using Em_ind with
  | nil hr hp => exact fun ps _ => ⟨trivial, fun _ _ c r e => by cases e⟩
  | @cons k ks x y z s t I hs ht hr hp _ ih =>
    intro ps ha
    obtain ⟨h1, h2, h3⟩ := ha
    obtain ⟨w1, w2⟩ := ih _ h3
    have hblk : ∀ c ∈ s, Pq.isBlk c = true := by induction k using Kd_ind with | w => exact hs.2 | g => exact hs | n => exact hs.2
    have htk := text_tk h2 ht
    have hyne : y.plain ≠ [] := by rw [hp]; have := ptext_ne h2; simp [this]
    refine ⟨⟨hblk, htk, ?_, w1⟩, ?_⟩
    · by_cases hsg : k.isSign = true
      · left
        induction k using Kd_ind with
        | w x => simp [Kd.isSign] at hsg
        | n a b => simp [Kd.isSign] at hsg
        | g x =>
          rw [show t = x from ht]
          exact isSign_g hsg
      · right
        exact w2 hyne (by simpa using hsg)
    · intro hx hps c r e
      simp only [Pq.flat] at e
      cases s with
      | cons a s' =>
        simp at e
        rw [← e.1]
        exact Pq.blk_other (hblk a (by simp))
      | nil =>
        have hap : k.apart := by rcases h1 with h1 | h1 <;> simp_all
        have hem : x.plain.isEmpty = false := by cases hxx : x.plain with | nil => exact absurd hxx hx | cons => rfl
        induction k using Kd_ind with
        | w u => rcases hs.1 with h | h
                 · rw [hem] at h; cases h
                 · exact absurd rfl h
        | n u b => exact absurd rfl (hs.1 hap)
        | g u =>
          have hu : t = u := ht
          subst hu
          have hsg : (Kd.g t).isSign = true := hap
          obtain ⟨d, hd, hs'⟩ := isSign_g hsg
          rw [hd] at e
          simp at e
          rw [← e.1]; exact Pq.sgn_other hs'
/-- a token that stands for k -/
def TokK (k : Kd) (t : Pq.Tok) : Prop := k.Text t.text ∧ t.num = Pq.headDig t.text
def Mt : List Kd → List Pq.Tok → Prop
  | [], [] => True
  | k :: ks, t :: ts => TokK k t ∧ Mt ks ts
  | _, _ => False
theorem Mt.nil : Mt [] [] := trivial
theorem Mt.cons {k : Kd} {ks : List Kd} {t : Pq.Tok} {ts : List Pq.Tok} (h : TokK k t) (hs : Mt ks ts) : Mt (k :: ks) (t :: ts) := ⟨h, hs⟩
theorem Mt_nil {ts : List Pq.Tok} (h : Mt [] ts) : ts = [] := by
  cases ts with
  | nil => rfl
  | cons t ts => exact absurd h (fun q => q)
theorem Mt_cons {k : Kd} {ks : List Kd} {ts : List Pq.Tok} (h : Mt (k :: ks) ts) : ∃ t ts', ts = t :: ts' ∧ TokK k t ∧ Mt ks ts' := by
  cases ts with
  | nil => exact absurd h (fun q => q)
  | cons t ts => exact ⟨t, ts, rfl, h.1, h.2⟩
theorem Em.mt {ks : List Kd} {x y : TS} {I : List (Bytes × Bytes)} (h : Em ks x I y) : ∀ ts : List Pq.Tok, ts.map (fun t => (t.text, t.num)) = I.map (fun i => (i.2, Pq.headDig i.2)) → Mt ks ts := by
  induction ks, x, I, y, h using Em_ind with
  | nil hr hp => intro ts e; simp at e; subst e; exact .nil
  | cons hs ht hr hp _ ih =>
    intro ts e
    cases ts with
    | nil => simp at e
    | cons a ts =>
      simp only [List.map_cons, List.cons.injEq, Prod.mk.injEq] at e
      exact .cons ⟨by rw [e.1.1]; exact ht, by rw [e.1.2, e.1.1]⟩ (ih ts e.2)
/-- a text that was written token by token, read -/
theorem read_toks {ks : List Kd} {y : TS} (h : Wr ks ⟨0, [], []⟩ y) (ha : Adj true ks) : (Pq.lexFrom y.raw 0).2 = -1 ∧ Mt ks (Pq.toksOf y.raw) := by
  obtain ⟨I, h⟩ := h
  have hw := (h.wrote true ha).1
  have hr : y.raw = Pq.flat I := by have := h.raw; simpa using this
  have hl := Pq.lex_flat I [] hw
  simp only [List.nil_append, List.length_nil] at hl
  rw [hr]
  exact ⟨hl.1, h.mt _ hl.2⟩
end Pk
end Go.Proofs.YtcoofnhdbejnpaaGreatDoor

/- Plain mathematics: the parser over tokens as they are meant. -/
namespace Go.Proofs.YtcoofnhdbejnpaaGreatDoor
namespace Pk
open Pq (Bytes Tok PS)
/-- nothing has failed, and these tokens are left -/
def At (toks : List Tok) (s : PS) (r : List Tok) : Prop := s.failed = false ∧ toks.drop s.next = r
theorem At.get {toks : List Tok} {s : PS} {t : Tok} {r : List Tok} (h : At toks s (t :: r)) : toks[s.next]? = some t := by
  have := congrArg (fun l => l[0]?) h.2
  simpa using this
theorem At.get_nil {toks : List Tok} {s : PS} (h : At toks s []) : toks[s.next]? = none := by
  have := congrArg (fun l => l[0]?) h.2
  simpa using this
theorem At.lt {toks : List Tok} {s : PS} {t : Tok} {r : List Tok} (h : At toks s (t :: r)) : s.next < toks.length := by
  have := h.get
  exact (List.getElem?_eq_some_iff.1 this).1
/-- s, k tokens further -/
def fw (s : PS) (k : Nat) : PS := { s with next := s.next + k }
theorem fw_step (s : PS) : s.step = fw s 1 := rfl
theorem fw_fw (s : PS) (a b : Nat) : fw (fw s a) b = fw s (a + b) := by simp [fw, Nat.add_assoc]
theorem At.fw {toks : List Tok} {s : PS} {ts r : List Tok} (h : At toks s (ts ++ r)) : At toks (fw s ts.length) r := by
  refine ⟨h.1, ?_⟩
  show toks.drop (s.next + ts.length) = r
  rw [← List.drop_drop, h.2]; simp
theorem At.step {toks : List Tok} {s : PS} {t : Tok} {r : List Tok} (h : At toks s (t :: r)) : At toks (Pk.fw s 1) r := At.fw (ts := [t]) h
theorem takes_yes {toks : List Tok} {s : PS} {t : Tok} {r : List Tok} {w : Bytes} (h : At toks s (t :: r)) (e : t.text = w) : Pq.takes toks w s = true := by
  unfold Pq.takes; rw [h.get, h.1]; simp [e]
theorem takes_no {toks : List Tok} {s : PS} {t : Tok} {r : List Tok} {w : Bytes} (h : At toks s (t :: r)) (e : t.text ≠ w) : Pq.takes toks w s = false := by
  unfold Pq.takes; rw [h.get, h.1]; simp [e]
theorem takes_nil {toks : List Tok} {s : PS} {w : Bytes} (h : At toks s []) : Pq.takes toks w s = false := by
  unfold Pq.takes; rw [h.get_nil]; simp
theorem want_yes {toks : List Tok} {s : PS} {t : Tok} {r : List Tok} {w : Bytes} (h : At toks s (t :: r)) (e : t.text = w) : Pq.wantS toks w s = fw s 1 := by
  unfold Pq.wantS; rw [takes_yes h e]; rfl
theorem num_tok {k : Nat} {b : Bool} {t : Tok} (hk : k < 100) (h : TokK (.n k b) t) : t.num = true ∧ Pq.worth t.text = (k : Int) := by
  obtain ⟨ht, hn⟩ := h
  have hall : ∀ k : Fin 100, Pq.headDig (Pq.numTxt (k.val : Int)) = true ∧ Pq.worth (Pq.numTxt (k.val : Int)) = (k.val : Int) ∧ Pq.worth (48 :: Pq.numTxt (k.val : Int)) = (k.val : Int) := by decide +kernel
  have := hall ⟨k, hk⟩
  rcases ht with e | ⟨_, e⟩
  · rw [e] at hn ⊢; exact ⟨hn.trans this.1, this.2.1⟩
  · rw [e] at hn ⊢; exact ⟨hn, this.2.2⟩
theorem num_yes {toks : List Tok} {s : PS} {t : Tok} {r : List Tok} {k : Nat} {b : Bool} (h : At toks s (t :: r)) (hk : k < 100) (ht : TokK (.n k b) t) : Pq.numS toks s = fw s 1 ∧ Pq.numV toks s = (k : Int) := by
  obtain ⟨h1, h2⟩ := num_tok hk ht
  have hi : Pq.isNum toks s = true := by unfold Pq.isNum; rw [h.get, h.1]; simp [h1]
  refine ⟨by unfold Pq.numS; rw [hi]; rfl, ?_⟩
  unfold Pq.numV
  rw [hi, h.get]
  simpa using h2
/-- a number is no word -/
theorem num_ne {k : Nat} {b : Bool} {t : Tok} (hk : k < 100) (h : TokK (.n k b) t) {w : Bytes} (hw : Pq.headDig w = false) : t.text ≠ w := by
  intro e
  have := (num_tok hk h).1
  rw [h.2, e, hw] at this; cases this
theorem edge_ok {toks : List Tok} {s : PS} {ts r : List Tok} {e : Pq.Edge} (he : GoodEdge e) (m : Mt (kEdge e) ts) (h : At toks s (ts ++ r)) : Pq.edgeR toks s = (e, fw s ts.length) := by
  obtain ⟨k, n⟩ := e
  have hk := he.kind
  have hz := he.zero
  obtain ⟨n0, n1⟩ := he.num
  simp only at hk hz n0 n1
  match k, hk with
  | 0, _ =>
    have hn := hz (by omega); subst hn
    obtain ⟨_, _, rfl, ht, m⟩ := Mt_cons m; obtain rfl := Mt_nil m
    have h' := h
    simp only [List.cons_append, List.nil_append] at h'
    unfold Pq.edgeR; rw [takes_yes h' ht.1]; rfl
  | 1, _ =>
    have hn := hz (by omega); subst hn
    obtain ⟨_, _, rfl, ht, m⟩ := Mt_cons m; obtain rfl := Mt_nil m
    simp only [List.cons_append, List.nil_append] at h
    unfold Pq.edgeR
    rw [takes_no h (by rw [show _ = _ from ht.1]; decide), takes_yes h ht.1]; rfl
  | 2, _ =>
    have hn := hz (by omega); subst hn
    obtain ⟨_, _, rfl, ht, m⟩ := Mt_cons m; obtain rfl := Mt_nil m
    simp only [List.cons_append, List.nil_append] at h
    unfold Pq.edgeR
    rw [takes_no h (by rw [show _ = _ from ht.1]; decide), takes_no h (by rw [show _ = _ from ht.1]; decide), takes_yes h ht.1]; rfl
  | 3, _ =>
    obtain ⟨n, rfl⟩ := Int.eq_ofNat_of_zero_le n0
    obtain ⟨_, _, rfl, ht, m⟩ := Mt_cons m; obtain ⟨_, _, rfl, ht2, m⟩ := Mt_cons m; obtain rfl := Mt_nil m
    simp only [List.cons_append, List.nil_append] at h
    have ht' : TokK (.n n true) _ := ht
    obtain ⟨e1, e2⟩ := num_yes h (by omega) ht'
    unfold Pq.edgeR
    rw [takes_no h (num_ne (by omega) ht' (by decide)), takes_no h (num_ne (by omega) ht' (by decide)), takes_no h (num_ne (by omega) ht' (by decide)), e1, e2, takes_yes h.step ht2.1]
    rfl
  | 4, _ =>
    obtain ⟨n, rfl⟩ := Int.eq_ofNat_of_zero_le n0
    obtain ⟨_, _, rfl, ht, m⟩ := Mt_cons m; obtain ⟨_, _, rfl, ht2, m⟩ := Mt_cons m; obtain rfl := Mt_nil m
    simp only [List.cons_append, List.nil_append] at h
    have ht' : TokK (.n n true) _ := ht
    obtain ⟨e1, e2⟩ := num_yes h (by omega) ht'
    unfold Pq.edgeR
    rw [takes_no h (num_ne (by omega) ht' (by decide)), takes_no h (num_ne (by omega) ht' (by decide)), takes_no h (num_ne (by omega) ht' (by decide)), e1, e2, takes_no h.step (by rw [show _ = _ from ht2.1]; decide), want_yes h.step ht2.1]
    rfl
end Pk
end Go.Proofs.YtcoofnhdbejnpaaGreatDoor

/- Plain mathematics: frames and functions, parsed. -/
namespace Go.Proofs.YtcoofnhdbejnpaaGreatDoor
namespace Pk
open Pq (Bytes Tok PS)
theorem Mt.split {ks ls : List Kd} : ∀ {ts : List Tok}, Mt (ks ++ ls) ts → ∃ t1 t2, ts = t1 ++ t2 ∧ Mt ks t1 ∧ Mt ls t2 := by
  induction ks with
  | nil => intro ts h; exact ⟨[], ts, rfl, .nil, h⟩
  | cons k ks ih =>
    intro ts h
    obtain ⟨_, _, rfl, ht, hm⟩ := Mt_cons h
    ·
      obtain ⟨t1, t2, rfl, h1, h2⟩ := ih hm
      exact ⟨_ :: t1, t2, rfl, .cons ht h1, h2⟩
theorem edge_head {e : Pq.Edge} {ts : List Tok} (he : GoodEdge e) (m : Mt (kEdge e) ts) : ∃ t ts', ts = t :: ts' ∧ (t.text = Pq.wStart ∨ t.text = Pq.wEnd ∨ t.text = Pq.wHere ∨ Pq.headDig t.text = true) := by
  obtain ⟨k, n⟩ := e
  have hk := he.kind
  obtain ⟨n0, n1⟩ := he.num
  simp only at hk n0 n1
  match k, hk with
  | 0, _ => obtain ⟨_, _, rfl, ht, m⟩ := Mt_cons m; exact ⟨_, _, rfl, .inl ht.1⟩
  | 1, _ => obtain ⟨_, _, rfl, ht, m⟩ := Mt_cons m; exact ⟨_, _, rfl, .inr (.inl ht.1)⟩
  | 2, _ => obtain ⟨_, _, rfl, ht, m⟩ := Mt_cons m; exact ⟨_, _, rfl, .inr (.inr (.inl ht.1))⟩
  | 3, _ =>
    obtain ⟨n, rfl⟩ := Int.eq_ofNat_of_zero_le n0
    obtain ⟨_, _, rfl, ht, m⟩ := Mt_cons m
    have ht' : TokK (.n n true) _ := ht
    exact ⟨_, _, rfl, .inr (.inr (.inr (ht'.2 ▸ (num_tok (by omega) ht').1)))⟩
  | 4, _ =>
    obtain ⟨n, rfl⟩ := Int.eq_ofNat_of_zero_le n0
    obtain ⟨_, _, rfl, ht, m⟩ := Mt_cons m
    have ht' : TokK (.n n true) _ := ht
    exact ⟨_, _, rfl, .inr (.inr (.inr (ht'.2 ▸ (num_tok (by omega) ht').1)))⟩
theorem frame_ok {toks : List Tok} {s : PS} {ts r : List Tok} {f : Pq.Frame} (hf : GoodFrame f) (m : Mt (kFrame f) ts) (h : At toks s (ts ++ r)) : Pq.frameR toks s = (f, fw s ts.length) := by
  induction f, hf using GoodFrame_ind with
  | all =>
    obtain ⟨_, _, rfl, ht, m⟩ := Mt_cons m; obtain rfl := Mt_nil m
    simp only [List.cons_append, List.nil_append] at h
    unfold Pq.frameR; rw [takes_yes h ht.1]; rfl
  | peers =>
    obtain ⟨_, _, rfl, ht, m⟩ := Mt_cons m; obtain rfl := Mt_nil m
    simp only [List.cons_append, List.nil_append] at h
    unfold Pq.frameR
    rw [takes_no h (by rw [show _ = _ from ht.1]; decide), takes_yes h ht.1]; rfl
  | near n hn =>
    obtain ⟨_, _, rfl, ht, m⟩ := Mt_cons m; obtain ⟨_, _, rfl, ht2, m⟩ := Mt_cons m; obtain rfl := Mt_nil m
    simp only [List.cons_append, List.nil_append] at h
    have ht' : TokK (.n n true) _ := ht2
    obtain ⟨e1, e2⟩ := num_yes h.step hn ht'
    unfold Pq.frameR
    rw [takes_no h (by rw [show _ = _ from ht.1]; decide), takes_no h (by rw [show _ = _ from ht.1]; decide), takes_yes h ht.1]
    simp only [Bool.false_eq_true, if_false, if_true, fw_step]
    rw [e1, e2]; rfl
  | between a b ha hb =>
    have m' : Mt (kEdge a ++ (.w Pq.wTo :: kEdge b)) ts := m
    obtain ⟨t1, t2, rfl, m1, m2⟩ := m'.split
    obtain ⟨t, t1', e1, hne⟩ := edge_head ha m1
    obtain ⟨u, t3, rfl, ht, m3⟩ := Mt_cons m2
    ·
      have h1 : At toks s (t1 ++ (u :: (t3 ++ r))) := by simpa using h
      have h0 : At toks s (t :: (t1' ++ (u :: (t3 ++ r)))) := by rw [e1] at h1; exact h1
      have hno : ∀ w, w ≠ Pq.wStart → w ≠ Pq.wEnd → w ≠ Pq.wHere → Pq.headDig w = false → t.text ≠ w := by
        intro w a1 a2 a3 a4 e
        rw [e] at hne
        rcases hne with h | h | h | h
        · exact a1 h
        · exact a2 h
        · exact a3 h
        · rw [a4] at h; cases h
      have hE := edge_ok ha m1 h1
      have h2 := At.fw h1
      have hW := want_yes h2 ht.1
      have hE2 := edge_ok hb m3 h2.step
      unfold Pq.frameR
      rw [takes_no h0 (hno _ (by decide) (by decide) (by decide) (by decide)), takes_no h0 (hno _ (by decide) (by decide) (by decide) (by decide)), takes_no h0 (hno _ (by decide) (by decide) (by decide) (by decide))]
      simp only [Bool.false_eq_true, if_false]
      rw [hE]
      simp only
      rw [hW, hE2]
      simp only [fw_fw, List.length_append, List.length_cons]
      congr 2; omega
theorem oneOf_ok {toks : List Tok} {s : PS} {t : Tok} {r : List Tok} {txt : Nat → Bytes} {n k : Nat} (h : At toks s (t :: r)) (hk : k < n) (ht : t.text = txt k) (hd : ∀ j, j < k → txt k ≠ txt j) : Pq.oneOfV toks txt n s = k ∧ Pq.oneOfS toks txt n s = fw s 1 := by
  have := Pq.firstTake_some (toks := toks) (txt := txt) (n := n) (k := k) (s := s) hk (fun j hj => takes_no h (by rw [ht]; exact hd j hj)) (takes_yes h ht)
  unfold Pq.oneOfV Pq.oneOfS
  rw [this]; exact ⟨rfl, rfl⟩
theorem kind_ne (k j : Nat) (hk : k < 12) (hj : j < k) : Pq.kindTxt k ≠ Pq.kindTxt j := by
  have hall : ∀ k : Fin 12, ∀ j : Fin 12, j.val < k.val → Pq.kindTxt k.val ≠ Pq.kindTxt j.val := by decide +kernel
  exact hall ⟨k, hk⟩ ⟨j, by omega⟩ hj
theorem col_ne (k j : Nat) (hk : k < 3) (hj : j < k) : Pq.colTxt k ≠ Pq.colTxt j := by
  have hall : ∀ k : Fin 3, ∀ j : Fin 3, j.val < k.val → Pq.colTxt k.val ≠ Pq.colTxt j.val := by decide +kernel
  exact hall ⟨k, hk⟩ ⟨j, by omega⟩ hj
theorem kind_ok {toks : List Tok} {s : PS} {t : Tok} {r : List Tok} {k : Nat} (h : At toks s (t :: r)) (hk : k < 12) (ht : t.text = Pq.kindTxt k) : Pq.oneOfV toks Pq.kindTxt 12 s = k ∧ Pq.oneOfS toks Pq.kindTxt 12 s = fw s 1 :=
  oneOf_ok h hk ht (fun j hj => kind_ne k j hk hj)
theorem col_ok {toks : List Tok} {s : PS} {t : Tok} {r : List Tok} {k : Nat} (h : At toks s (t :: r)) (hk : k < 3) (ht : t.text = Pq.colTxt k) : Pq.oneOfV toks Pq.colTxt 3 s = k ∧ Pq.oneOfS toks Pq.colTxt 3 s = fw s 1 :=
  oneOf_ok h hk ht (fun j hj => col_ne k j hk hj)
theorem fn_ok {toks : List Tok} {s : PS} {ts r : List Tok} {f : Pq.Fn} (len : Nat) (hf : GoodFn f) (m : Mt (kFn f) ts) (h : At toks s (ts ++ r)) : Pq.funcR toks len s = (f, fw s ts.length) := by
  induction f, hf using GoodFn_ind with
  | plain k hk =>
    have m' : Mt [.w (Pq.kindTxt k)] ts := by simpa [kFn, hk] using m
    obtain ⟨_, _, rfl, ht, m'⟩ := Mt_cons m'; obtain rfl := Mt_nil m'
    simp only [List.cons_append, List.nil_append] at h
    obtain ⟨e1, e2⟩ := kind_ok h (by omega) ht.1
    unfold Pq.funcR
    rw [e1, e2, if_pos hk]; rfl
  | tile n hn h0 =>
    have m' : Mt [.w (Pq.kindTxt 3), .g [40], .n n false, .g [41]] ts := m
    obtain ⟨_, _, rfl, t1, m'⟩ := Mt_cons m'; obtain ⟨_, _, rfl, t2, m'⟩ := Mt_cons m'; obtain ⟨_, _, rfl, t3, m'⟩ := Mt_cons m'; obtain ⟨_, _, rfl, t4, m'⟩ := Mt_cons m'; obtain rfl := Mt_nil m'
    simp only [List.cons_append, List.nil_append] at h
    obtain ⟨e1, e2⟩ := kind_ok h (by omega) t1.1
    have w1 := want_yes h.step (w := Pq.wOpen) t2.1
    obtain ⟨n1, n2⟩ := num_yes h.step.step hn t3
    have w2 := want_yes h.step.step.step (w := Pq.wClose) t4.1
    have ht : Pq.tileS toks len (fw (fw s 1) 1) = fw (fw (fw s 1) 1) 1 := by
      unfold Pq.tileS; rw [n2, if_neg (by omega), n1]
    unfold Pq.funcR Pq.tileR
    rw [e1, e2, if_neg (by omega), if_pos rfl, w1, n2, ht, w2]
    rfl
  | lag k c n hk hc hn =>
    have m' : Mt [.w (Pq.kindTxt k), .g [40], .g (Pq.colTxt c), .g [44], .n n true, .g [41]] ts := by rcases hk with rfl | rfl <;> exact m
    obtain ⟨_, _, rfl, t1, m'⟩ := Mt_cons m'; obtain ⟨_, _, rfl, t2, m'⟩ := Mt_cons m'; obtain ⟨_, _, rfl, t3, m'⟩ := Mt_cons m'; obtain ⟨_, _, rfl, t4, m'⟩ := Mt_cons m'; obtain ⟨_, _, rfl, t5, m'⟩ := Mt_cons m'; obtain ⟨_, _, rfl, t6, m'⟩ := Mt_cons m'; obtain rfl := Mt_nil m'
    simp only [List.cons_append, List.nil_append] at h
    obtain ⟨e1, e2⟩ := kind_ok h (by omega) t1.1
    have w1 := want_yes h.step (w := Pq.wOpen) t2.1
    obtain ⟨c1, c2⟩ := col_ok h.step.step hc t3.1
    have w2 := want_yes h.step.step.step (w := Pq.wComma) t4.1
    obtain ⟨n1, n2⟩ := num_yes h.step.step.step.step hn t5
    have w3 := want_yes h.step.step.step.step.step (w := Pq.wClose) t6.1
    unfold Pq.funcR Pq.lagR Pq.colComma
    rw [e1, e2, if_neg (by omega), if_neg (by omega), if_pos (by omega), w1, c1, c2, w2, n1, n2, w3]
    rfl
  | over k c f h6 hk hc hf =>
    have m' : Mt ([.w (Pq.kindTxt k), .g [40], .g (Pq.colTxt c), .g [44]] ++ kFrame f ++ [.g [41]]) ts := by
      have : kFn ⟨k, c, 0, f⟩ = [.w (Pq.kindTxt k), .g [40], .g (Pq.colTxt c), .g [44]] ++ kFrame f ++ [.g [41]] := by
        unfold kFn; rw [if_neg (by simp; omega), if_neg (by simp; omega), if_neg (by simp; omega)]
      rw [this] at m; exact m
    obtain ⟨ta, tb, rfl, ma, mb⟩ := m'.split
    obtain ⟨tc, td, rfl, mc, md⟩ := ma.split
    clear m m' ma
    obtain ⟨_, _, rfl, t1, u1⟩ := Mt_cons mc; obtain ⟨_, _, rfl, t2, u2⟩ := Mt_cons u1; obtain ⟨_, _, rfl, t3, u3⟩ := Mt_cons u2; obtain ⟨_, _, rfl, t4, u4⟩ := Mt_cons u3; obtain rfl := Mt_nil u4
    obtain ⟨_, _, rfl, t5, u5⟩ := Mt_cons mb; obtain rfl := Mt_nil u5
    simp only [List.cons_append, List.nil_append, List.append_assoc] at h
    obtain ⟨e1, e2⟩ := kind_ok h hk t1.1
    have w1 := want_yes h.step (w := Pq.wOpen) t2.1
    obtain ⟨c1, c2⟩ := col_ok h.step.step hc t3.1
    have w2 := want_yes h.step.step.step (w := Pq.wComma) t4.1
    have hF := frame_ok hf md h.step.step.step.step
    have w3 := want_yes (At.fw h.step.step.step.step) (w := Pq.wClose) t5.1
    unfold Pq.funcR Pq.overR Pq.colComma
    rw [e1, e2, if_neg (by omega), if_neg (by omega), if_neg (by omega), w1, c1, c2, w2, hF]
    simp only
    rw [w3]
    simp only [fw_fw, List.length_append, List.length_cons, List.length_nil]
    first | done | (congr 2; omega)
end Pk
end Go.Proofs.YtcoofnhdbejnpaaGreatDoor

