/- Plain mathematics: what is written, token by token, with blanks here and there. -/
import Derived.Test.YtcoofnhdbejnpaaDoorMa
import Derived.Test.YtcoofnhdbejnpaaDoorUc
namespace Go.Proofs.YtcoofnhdbejnpaaDoor
namespace Pk
open Pq (Bytes)
/-- a token as it is meant: a word (with a blank ahead), a token that is glued on, a number (with a blank ahead, or glued on) -/
structure Kd where
  v : Sum Bytes (Sum Bytes (Nat × Bool))
abbrev Kd.w (t : Bytes) : Kd := ⟨.inl t⟩
abbrev Kd.g (t : Bytes) : Kd := ⟨.inr (.inl t)⟩
abbrev Kd.n (k : Nat) (b : Bool) : Kd := ⟨.inr (.inr (k, b))⟩
theorem Kd_ind {motive : Kd → Prop} (w : ∀ t, motive (.w t)) (g : ∀ t, motive (.g t)) (n : ∀ k b, motive (.n k b)) (k : Kd) : motive k := by
  obtain ⟨x | x | ⟨a, b⟩⟩ := k
  · exact w x
  · exact g x
  · exact n a b
/-- the token's text, as it may be written -/
def Kd.Text : Kd → Bytes → Prop
  | ⟨.inl t⟩, x => x = t
  | ⟨.inr (.inl t)⟩, x => x = t
  | ⟨.inr (.inr (k, _))⟩, x => x = Pq.numTxt k ∨ (k < 10 ∧ x = 48 :: Pq.numTxt k)
/-- the blanks ahead of it; first: nothing stands ahead -/
def Kd.Sep (first : Bool) : Kd → Bytes → Prop
  | ⟨.inl _⟩, x => (first = true ∨ x ≠ []) ∧ ∀ c ∈ x, Pq.isBlk c = true
  | ⟨.inr (.inl _)⟩, x => ∀ c ∈ x, Pq.isBlk c = true
  | ⟨.inr (.inr (_, b))⟩, x => (b = true → x ≠ []) ∧ ∀ c ∈ x, Pq.isBlk c = true
/-- its plain form: blank and text -/
def Kd.psep (first : Bool) : Kd → Bytes
  | ⟨.inl _⟩ => if first then [] else [32]
  | ⟨.inr (.inl _)⟩ => []
  | ⟨.inr (.inr (_, b))⟩ => if b then [32] else []
def Kd.ptext : Kd → Bytes
  | ⟨.inl t⟩ => t
  | ⟨.inr (.inl t)⟩ => t
  | ⟨.inr (.inr (k, _))⟩ => Pq.numTxt k
/-- the plain form of a row of tokens behind a text -/
def plainOf (p : Bytes) : List Kd → Bytes
  | [] => p
  | k :: r => plainOf (p ++ k.psep p.isEmpty ++ k.ptext) r
/-- from x on the tokens ks have been written, and y has come of it; I: blanks and texts of the raw form -/
def Em (ks : List Kd) (x : TS) (I : List (Bytes × Bytes)) (y : TS) : Prop := ∀ M : List Kd → TS → List (Bytes × Bytes) → TS → Prop, (∀ x y : TS, y.raw = x.raw → y.plain = x.plain → M [] x [] y) → (∀ (k : Kd) (ks : List Kd) (x y z : TS) (s t : Bytes) (I : List (Bytes × Bytes)), k.Sep x.plain.isEmpty s → k.Text t → y.raw = x.raw ++ s ++ t → y.plain = x.plain ++ k.psep x.plain.isEmpty ++ k.ptext → M ks y I z → M (k :: ks) x ((s, t) :: I) z) → M ks x I y
theorem Em.nil {x y : TS} (hr : y.raw = x.raw) (hp : y.plain = x.plain) : Em [] x [] y := fun _ r0 _ => r0 x y hr hp
theorem Em.cons {k : Kd} {ks : List Kd} {x y z : TS} {s t : Bytes} {I : List (Bytes × Bytes)} (hs : k.Sep x.plain.isEmpty s) (ht : k.Text t) (hr : y.raw = x.raw ++ s ++ t) (hp : y.plain = x.plain ++ k.psep x.plain.isEmpty ++ k.ptext) (h : Em ks y I z) : Em (k :: ks) x ((s, t) :: I) z := fun M r0 r1 => r1 k ks x y z s t I hs ht hr hp (h M r0 r1)
theorem Em_ind {motive : (ks : List Kd) → (x : TS) → (I : List (Bytes × Bytes)) → (y : TS) → Em ks x I y → Prop} (nil : ∀ {x y : TS} (hr : y.raw = x.raw) (hp : y.plain = x.plain), motive [] x [] y (Em.nil hr hp))
    (cons : ∀ {k : Kd} {ks : List Kd} {x y z : TS} {s t : Bytes} {I : List (Bytes × Bytes)} (hs : k.Sep x.plain.isEmpty s) (ht : k.Text t) (hr : y.raw = x.raw ++ s ++ t) (hp : y.plain = x.plain ++ k.psep x.plain.isEmpty ++ k.ptext) (h : Em ks y I z), motive ks y I z h → motive (k :: ks) x ((s, t) :: I) z (Em.cons hs ht hr hp h)) (ks : List Kd) (x : TS) (I : List (Bytes × Bytes)) (y : TS) (h : Em ks x I y) : motive ks x I y h := by
  obtain ⟨_, q⟩ := h (fun ks x I y => ∃ h : Em ks x I y, motive ks x I y h) (fun _ _ hr hp => ⟨_, nil hr hp⟩) (fun _ _ _ _ _ _ _ _ hs ht hr hp ⟨h, q⟩ => ⟨_, cons hs ht hr hp h q⟩)
  exact q
theorem Em.app {ks ls : List Kd} {x y z : TS} {I J : List (Bytes × Bytes)} (h : Em ks x I y) (h2 : Em ls y J z) : Em (ks ++ ls) x (I ++ J) z := by
  induction ks, x, I, y, h using Em_ind generalizing z J with
  | @nil x y hr hp =>
    induction ls, y, J, z, h2 using Em_ind with
    | nil hr' hp' => exact .nil (hr'.trans hr) (hp'.trans hp)
    | cons hs ht hr' hp' h _ => rw [hp] at hs hp'; rw [hr] at hr'; exact .cons hs ht hr' hp' h
  | cons hs ht hr hp _ ih => exact .cons hs ht hr hp (ih h2)
/-- y came of x by writing the tokens ks -/
def Wr (ks : List Kd) (x y : TS) : Prop := ∃ I, Em ks x I y
theorem Wr.nil (x : TS) : Wr [] x x := ⟨[], .nil rfl rfl⟩
theorem Wr.eat (x : TS) (l : Bytes) : Wr [] x (x.eat l) := ⟨[], .nil rfl rfl⟩
theorem Wr.app {ks ls : List Kd} {x y z : TS} (h : Wr ks x y) (h2 : Wr ls y z) : Wr (ks ++ ls) x z := by
  obtain ⟨I, h⟩ := h; obtain ⟨J, h2⟩ := h2; exact ⟨I ++ J, h.app h2⟩
theorem isEmpty_iff' (p : Bytes) : p.isEmpty = true ↔ p = [] := List.isEmpty_iff
theorem Wr.word (l t : Bytes) (x : TS) : Wr [.w t] x (wordS l t x) := by
  refine ⟨[(pre x ++ (if nxt l x.a 6 = 1 then [10, 32] else []), t)], .cons ?_ rfl ?_ ?_ (.nil rfl rfl)⟩
  · refine ⟨?_, ?_⟩
    · cases hp : x.plain with
      | nil => exact .inl rfl
      | cons a b => right; simp [pre, hp]
    · intro c hc
      have h32 : Pq.isBlk 32 = true := by decide
      have h10 : Pq.isBlk 10 = true := by decide
      rcases List.mem_append.1 hc with hc | hc
      · unfold pre at hc; split at hc
        · cases hc
        · simp at hc; subst hc; exact h32
      · split at hc
        · simp at hc; rcases hc with rfl | rfl
          · exact h10
          · exact h32
        · cases hc
  · simp [wordS]
  · show x.plain ++ pre x ++ t = _
    unfold pre Kd.psep Kd.ptext
    cases hp : x.plain <;> simp
theorem Wr.glued (l t : Bytes) (x : TS) : Wr [.g t] x (gluedS l t x) := by
  refine ⟨[((if nxt l x.a 4 = 1 then [32] else []), t)], .cons ?_ rfl ?_ ?_ (.nil rfl rfl)⟩
  · intro c hc
    have h32 : Pq.isBlk 32 = true := by decide
    split at hc
    · simp at hc; subst hc; exact h32
    · cases hc
  · simp [gluedS]
  · simp [gluedS, Kd.psep, Kd.ptext]
theorem Wr.number (l : Bytes) (n : Nat) (b : Bool) (x : TS) : Wr [.n n b] x (numberS l n b x) := by
  refine ⟨[(blankB b, nought l n x ++ Pq.numTxt n)], .cons ?_ ?_ ?_ ?_ (.nil rfl rfl)⟩
  · have h32 : Pq.isBlk 32 = true := by decide
    refine ⟨fun hb => by subst hb; simp [blankB], fun c hc => ?_⟩
    unfold blankB at hc; split at hc
    · simp at hc; subst hc; exact h32
    · cases hc
  · unfold nought; split
    · rename_i h; exact .inr ⟨h.1, rfl⟩
    · exact .inl rfl
  · simp [numberS]
  · cases b <;> simp [numberS, Kd.psep, Kd.ptext, blankB]
/-! the tokens of each part of a query -/
def kCol (c : Nat × Bool) : List Kd := .w (Pq.colTxt c.1) :: (if c.2 then [.w Pq.wDesc] else [])
/-- with , between each two -/
def kJoin : List (List Kd) → List Kd
  | [] => []
  | [x] => x
  | x :: y :: r => x ++ (.g [44] :: kJoin (y :: r))
def kEdge (e : Pq.Edge) : List Kd := if e.kind = 0 then [.w Pq.wStart] else if e.kind = 1 then [.w Pq.wEnd] else if e.kind = 2 then [.w Pq.wHere] else if e.kind = 3 then [.n e.num.toNat true, .w Pq.wBack] else [.n e.num.toNat true, .w Pq.wOn]
def kFrame (f : Pq.Frame) : List Kd := if f.kind = 0 then [.w Pq.wAll] else if f.kind = 1 then [.w Pq.wPeers] else if f.kind = 2 then [.w Pq.wNear, .n f.num.toNat true] else kEdge f.frm ++ (.w Pq.wTo :: kEdge f.to)
def kFn (f : Pq.Fn) : List Kd :=
  if f.kind < 3 then [.w (Pq.kindTxt f.kind)]
  else if f.kind = 3 then [.w (Pq.kindTxt 3), .g [40], .n f.num.toNat false, .g [41]]
  else if f.kind < 6 then [.w (Pq.kindTxt f.kind), .g [40], .g (Pq.colTxt f.col), .g [44], .n f.num.toNat true, .g [41]]
  else [.w (Pq.kindTxt f.kind), .g [40], .g (Pq.colTxt f.col), .g [44]] ++ kFrame f.frame ++ [.g [41]]
theorem colW_eq (j : Nat) (h : j < 5) : colW j = Pq.colTxt (j % 3) := by
  match j, h with
  | 0, _ => rfl
  | 1, _ => rfl
  | 2, _ => rfl
  | 3, _ => rfl
  | 4, _ => rfl
theorem kJoin_snoc : ∀ (xs : List (List Kd)) (x : List Kd), kJoin (xs ++ [x]) = if xs = [] then x else kJoin xs ++ (.g [44] :: x)
  | [], _ => rfl
  | [_], _ => by simp [kJoin]
  | a :: b :: r, x => by
    have ih := kJoin_snoc (b :: r) x
    simp only [List.cons_append, kJoin] at ih ⊢
    rw [ih]; simp
end Pk
end Go.Proofs.YtcoofnhdbejnpaaDoor
