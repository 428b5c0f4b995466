/- Plain functions: how long the texts become. -/
import Derived.Test.YtcoofnhdbejnpaaGreatDoorG05
import Derived.Test.YtcoofnhdbejnpaaGreatDoorG08
namespace Go.Proofs.YtcoofnhdbejnpaaGreatDoor
namespace Pk
open Pq (Bytes)
def Ln (n : Nat) (x : TS) : Prop := x.raw.length ≤ n ∧ x.plain.length ≤ n
theorem Ln.mono {n m : Nat} {x : TS} (h : Ln n x) (hm : n ≤ m) : Ln m x := ⟨Nat.le_trans h.1 hm, Nat.le_trans h.2 hm⟩
theorem Ln.eat {n : Nat} {x : TS} (h : Ln n x) (l : Bytes) : Ln n (x.eat l) := h
theorem Ln.word {n : Nat} {x : TS} (h : Ln n x) (l t : Bytes) {k : Nat} (ht : t.length ≤ k) : Ln (n + (k + 3)) (wordS l t x) := by
  have h1 := h.1; have h2 := h.2
  have hp : (pre x).length ≤ 1 := by unfold pre; split <;> simp
  have hq : (if nxt l x.a 6 = 1 then ([10, 32] : Bytes) else []).length ≤ 2 := by split <;> simp
  constructor <;> simp only [wordS, List.length_append] <;> omega
theorem Ln.glued {n : Nat} {x : TS} (h : Ln n x) (l t : Bytes) {k : Nat} (ht : t.length ≤ k) : Ln (n + (k + 1)) (gluedS l t x) := by
  have h1 := h.1; have h2 := h.2
  have hq : (if nxt l x.a 4 = 1 then ([32] : Bytes) else []).length ≤ 1 := by split <;> simp
  constructor <;> simp only [gluedS, List.length_append] <;> omega
theorem numTxt_small {k : Nat} (h : k < 10) : (Pq.numTxt (k : Int)).length = 1 := by unfold Pq.numTxt; rw [if_pos (by omega)]; rfl
theorem Ln.number {n : Nat} {x : TS} (h : Ln n x) (l : Bytes) (k : Nat) (b : Bool) : Ln (n + 3) (numberS l k b x) := by
  have h1 := h.1; have h2 := h.2
  have hb : (blankB b).length ≤ 1 := by unfold blankB; split <;> simp
  have hq := Pq.numTxt_len (k : Int)
  by_cases hk : k < 10
  · have hn : (nought l k x).length ≤ 1 := by unfold nought; split <;> simp
    have := numTxt_small hk
    constructor <;> simp only [numberS, List.length_append] <;> omega
  · have hn : nought l k x = [] := by unfold nought; rw [if_neg (by omega)]
    constructor <;> simp only [numberS, List.length_append, hn, List.length_nil] <;> omega
theorem colW_len (j : Nat) : (colW j).length = 1 := by unfold colW; split <;> rfl
theorem edgeW_len (j : Nat) : (edgeW j).length ≤ 5 := by unfold edgeW; split <;> simp [Pq.wStart, Pq.wEnd, Pq.wHere, Pq.wBack, Pq.wOn]
theorem Ln.desc {n : Nat} {x : TS} (h : Ln n x) (l : Bytes) (keys : Bool) : Ln (n + 7) (descS l keys x) := by
  unfold descS
  repeat' split
  · exact ((h.eat l).word l _ (k := 4) (by simp))
  · exact (h.eat l).mono (by omega)
  · exact h.mono (by omega)
theorem Ln.comma {n : Nat} {x : TS} (h : Ln n x) (l : Bytes) (i : Nat) : Ln (n + 2) (commaS l i x) := by
  unfold commaS; split
  · exact h.glued l _ (k := 1) (by simp)
  · exact h.mono (by omega)
theorem Ln.colStep {n : Nat} {x : TS} (h : Ln n x) (l : Bytes) (keys : Bool) (a i : Nat) : Ln (n + 13) (colStep l keys a i x) := by
  unfold Pk.colStep
  exact (((h.comma l i).word l (colW (a + i)) (k := 1) (by rw [colW_len]; omega)).desc l keys).mono (by omega)
theorem Ln.colsTo {n : Nat} {x : TS} (h : Ln n x) (l : Bytes) (keys : Bool) (a : Nat) : ∀ k, Ln (n + 13 * k) (colsTo l keys a k x)
  | 0 => h
  | k + 1 => ((Ln.colsTo h l keys a k).colStep l keys a k).mono (by omega)
theorem Ln.cols {n : Nat} {x : TS} (h : Ln n x) (l : Bytes) (keys : Bool) : Ln (n + 39) (colsS l keys x) := by
  have := nxt_lt l (adv l x.a) 3 (by omega)
  exact (Ln.colsTo (((h.eat l).eat l)) l keys _ _).mono (by omega)
theorem Ln.edge {n : Nat} {x : TS} (h : Ln n x) (l : Bytes) : Ln (n + 11) (edgeS l x) := by
  unfold edgeS; split
  · exact ((h.eat l).word l _ (edgeW_len _)).mono (by omega)
  · exact (((h.eat l).eat l).number l _ _).word l _ (edgeW_len _)
theorem Ln.frame {n : Nat} {x : TS} (h : Ln n x) (l : Bytes) : Ln (n + 27) (frameS l x) := by
  unfold frameS nearS betweenS
  repeat' split
  · exact ((h.eat l).word l Pq.wAll (k := 3) (by simp [Pq.wAll])).mono (by omega)
  · exact (((h.eat l).eat l).word l Pq.wPeers (k := 5) (by simp [Pq.wPeers])).mono (by omega)
  · exact (((((h.eat l).eat l).eat l).word l Pq.wNear (k := 4) (by simp [Pq.wNear])).eat l |>.number l _ _).mono (by omega)
  · exact ((((((h.eat l).eat l).eat l).edge l).word l Pq.wTo (k := 2) (by simp [Pq.wTo])).edge l).mono (by omega)
theorem Ln.colArg {n : Nat} {x : TS} (h : Ln n x) (l : Bytes) : Ln (n + 6) (colArg l x) := by
  unfold Pk.colArg
  exact ((((h.glued l [40] (k := 1) (by simp)).eat l).glued l (colW _) (k := 1) (by rw [colW_len]; omega)).glued l [44] (k := 1) (by simp)).mono (by omega)
theorem Ln.fn {n : Nat} {x : TS} (h : Ln n x) (l : Bytes) : Ln (n + 44) (funS l x) := by
  have hy := (h.eat l).word l (Pq.kindTxt (nxt l x.a 12)) (Pq.kindTxt_len _)
  unfold funS
  simp only
  repeat' split
  · exact hy.mono (by omega)
  · unfold tileS
    exact ((((hy.glued l [40] (k := 1) (by simp)).eat l).number l _ _).glued l [41] (k := 1) (by simp)).mono (by omega)
  · unfold lagS
    exact ((((hy.colArg l).eat l).number l _ _).glued l [41] (k := 1) (by simp)).mono (by omega)
  · exact (((hy.colArg l).frame l).glued l [41] (k := 1) (by simp)).mono (by omega)
theorem Ln.funsTo {n : Nat} {x : TS} (h : Ln n x) (l : Bytes) : ∀ k, Ln (n + 46 * k) (funsTo l k x)
  | 0 => h
  | k + 1 => (((Ln.funsTo h l k).comma l k).fn l).mono (by omega)
end Pk
end Go.Proofs.YtcoofnhdbejnpaaGreatDoor

/- Plain functions: the end of a query, in steps. -/
namespace Go.Proofs.YtcoofnhdbejnpaaGreatDoor
namespace Pk
open Pq (Bytes)
def top5 (l : Bytes) (z : TS) : TS := numberS l (nxt l z.a 3) true (wordS l [102, 114, 111, 109] (z.eat l))
def top4 (l : Bytes) (z : TS) : TS := if nxt l z.a 3 = 0 then { top5 l z with plain := (top5 l z).plain.take ((top5 l z).plain.length - 7) } else top5 l z
def top3 (l : Bytes) (y : TS) : TS := top4 l (numberS l (nxt l y.a 6) true (y.eat l))
theorem numTxt_pos (n : Int) : 1 ≤ (Pq.numTxt n).length := by unfold Pq.numTxt; split <;> simp
theorem top5_len (l : Bytes) (z : TS) (h : z.plain ≠ []) : 7 ≤ (top5 l z).plain.length := by
  have hp : (pre (z.eat l)) = [32] := by unfold pre TS.eat; rw [if_neg h]
  have h1 := numTxt_pos (nxt l z.a 3 : Int)
  have h2 : 1 ≤ z.plain.length := by cases hz : z.plain with | nil => exact absurd hz h | cons => simp
  simp only [top5, numberS, wordS, hp, List.length_append, blankB, if_true, List.length_cons, List.length_nil]
  simp only [TS.eat]
  omega
end Pk
end Go.Proofs.YtcoofnhdbejnpaaGreatDoor

/- Plain mathematics: what is written, token by token, with blanks here and there. -/
namespace Go.Proofs.YtcoofnhdbejnpaaGreatDoor
namespace Pk
open Pq (Bytes)
/-- a token as it is meant: a word (with a blank ahead), a token that is glued on, a number (with a blank ahead, or glued on) -/
structure Kd where
  v : Sum Bytes (Sum Bytes (Nat × Bool))
abbrev Kd.w (t : Bytes) : Kd := ⟨.inl t⟩
abbrev Kd.g (t : Bytes) : Kd := ⟨.inr (.inl t)⟩
abbrev Kd.n (k : Nat) (b : Bool) : Kd := ⟨.inr (.inr (k, b))⟩
theorem Kd_ind {motive : Kd → Prop} (w : ∀ t, motive (.w t)) (g : ∀ t, motive (.g t)) (n : ∀ k b, motive (.n k b)) (k : Kd) : motive k := by
  obtain ⟨x | x | ⟨a, b⟩⟩ := k
  · exact w x
  · exact g x
  · exact n a b
/-- the token's text, as it may be written -/
def Kd.Text : Kd → Bytes → Prop
  | ⟨.inl t⟩, x => x = t
  | ⟨.inr (.inl t)⟩, x => x = t
  | ⟨.inr (.inr (k, _))⟩, x => x = Pq.numTxt k ∨ (k < 10 ∧ x = 48 :: Pq.numTxt k)
/-- the blanks ahead of it; first: nothing stands ahead -/
def Kd.Sep (first : Bool) : Kd → Bytes → Prop
  | ⟨.inl _⟩, x => (first = true ∨ x ≠ []) ∧ ∀ c ∈ x, Pq.isBlk c = true
  | ⟨.inr (.inl _)⟩, x => ∀ c ∈ x, Pq.isBlk c = true
  | ⟨.inr (.inr (_, b))⟩, x => (b = true → x ≠ []) ∧ ∀ c ∈ x, Pq.isBlk c = true
/-- its plain form: blank and text -/
def Kd.psep (first : Bool) : Kd → Bytes
  | ⟨.inl _⟩ => if first then [] else [32]
  | ⟨.inr (.inl _)⟩ => []
  | ⟨.inr (.inr (_, b))⟩ => if b then [32] else []
def Kd.ptext : Kd → Bytes
  | ⟨.inl t⟩ => t
  | ⟨.inr (.inl t)⟩ => t
  | ⟨.inr (.inr (k, _))⟩ => Pq.numTxt k
/-- the plain form of a row of tokens behind a text -/
def plainOf (p : Bytes) : List Kd → Bytes
  | [] => p
  | k :: r => plainOf (p ++ k.psep p.isEmpty ++ k.ptext) r
/-- from x on the tokens ks have been written, and y has come of it; I: blanks and texts of the raw form -/
def Em (ks : List Kd) (x : TS) (I : List (Bytes × Bytes)) (y : TS) : Prop := ∀ M : List Kd → TS → List (Bytes × Bytes) → TS → Prop, (∀ x y : TS, y.raw = x.raw → y.plain = x.plain → M [] x [] y) → (∀ (k : Kd) (ks : List Kd) (x y z : TS) (s t : Bytes) (I : List (Bytes × Bytes)), k.Sep x.plain.isEmpty s → k.Text t → y.raw = x.raw ++ s ++ t → y.plain = x.plain ++ k.psep x.plain.isEmpty ++ k.ptext → M ks y I z → M (k :: ks) x ((s, t) :: I) z) → M ks x I y
theorem Em.nil {x y : TS} (hr : y.raw = x.raw) (hp : y.plain = x.plain) : Em [] x [] y := fun _ r0 _ => r0 x y hr hp
theorem Em.cons {k : Kd} {ks : List Kd} {x y z : TS} {s t : Bytes} {I : List (Bytes × Bytes)} (hs : k.Sep x.plain.isEmpty s) (ht : k.Text t) (hr : y.raw = x.raw ++ s ++ t) (hp : y.plain = x.plain ++ k.psep x.plain.isEmpty ++ k.ptext) (h : Em ks y I z) : Em (k :: ks) x ((s, t) :: I) z := fun M r0 r1 => r1 k ks x y z s t I hs ht hr hp (h M r0 r1)
theorem Em_ind {motive : (ks : List Kd) → (x : TS) → (I : List (Bytes × Bytes)) → (y : TS) → Em ks x I y → Prop} (nil : ∀ {x y : TS} (hr : y.raw = x.raw) (hp : y.plain = x.plain), motive [] x [] y (Em.nil hr hp))
    (cons : ∀ {k : Kd} {ks : List Kd} {x y z : TS} {s t : Bytes} {I : List (Bytes × Bytes)} (hs : k.Sep x.plain.isEmpty s) (ht : k.Text t) (hr : y.raw = x.raw ++ s ++ t) (hp : y.plain = x.plain ++ k.psep x.plain.isEmpty ++ k.ptext) (h : Em ks y I z), motive ks y I z h → motive (k :: ks) x ((s, t) :: I) z (Em.cons hs ht hr hp h)) (ks : List Kd) (x : TS) (I : List (Bytes × Bytes)) (y : TS) (h : Em ks x I y) : motive ks x I y h := by
  obtain ⟨_, q⟩ := h (fun ks x I y => ∃ h : Em ks x I y, motive ks x I y h) (fun _ _ hr hp => ⟨_, nil hr hp⟩) (fun _ _ _ _ _ _ _ _ hs ht hr hp ⟨h, q⟩ => ⟨_, cons hs ht hr hp h q⟩)
  exact q
theorem Em.app {ks ls : List Kd} {x y z : TS} {I J : List (Bytes × Bytes)} (h : Em ks x I y) (h2 : Em ls y J z) : Em (ks ++ ls) x (I ++ J) z := by
  induction ks, x, I, y, h using Em_ind generalizing z J with
  | @nil x y hr hp =>
    induction ls, y, J, z, h2 using Em_ind with
    | nil hr' hp' => exact .nil (hr'.trans hr) (hp'.trans hp)
    | cons hs ht hr' hp' h _ => rw [hp] at hs hp'; rw [hr] at hr'; exact .cons hs ht hr' hp' h
  | cons hs ht hr hp _ ih => exact .cons hs ht hr hp (ih h2)
/-- y came of x by writing the tokens ks -/
def Wr (ks : List Kd) (x y : TS) : Prop := ∃ I, Em ks x I y
theorem Wr.nil (x : TS) : Wr [] x x := ⟨[], .nil rfl rfl⟩
theorem Wr.eat (x : TS) (l : Bytes) : Wr [] x (x.eat l) := ⟨[], .nil rfl rfl⟩
theorem Wr.app {ks ls : List Kd} {x y z : TS} (h : Wr ks x y) (h2 : Wr ls y z) : Wr (ks ++ ls) x z := by
  obtain ⟨I, h⟩ := h; obtain ⟨J, h2⟩ := h2; exact ⟨I ++ J, h.app h2⟩
theorem Wr.word (l t : Bytes) (x : TS) : Wr [.w t] x (wordS l t x) := by
  refine ⟨[(pre x ++ (if nxt l x.a 6 = 1 then [10, 32] else []), t)], .cons ?_ rfl ?_ ?_ (.nil rfl rfl)⟩
  · refine ⟨?_, ?_⟩
    · cases hp : x.plain with
      | nil => exact .inl rfl
      | cons a b => right; simp [pre, hp]
    · intro c hc
      have h32 : Pq.isBlk 32 = true := by decide
      have h10 : Pq.isBlk 10 = true := by decide
      rcases List.mem_append.1 hc with hc | hc
      · unfold pre at hc; split at hc
        · cases hc
        · simp at hc; subst hc; exact h32
      · split at hc
        · simp at hc; rcases hc with rfl | rfl
          · exact h10
          · exact h32
        · cases hc
  · simp [wordS]
  · show x.plain ++ pre x ++ t = _
    unfold pre Kd.psep Kd.ptext
    cases hp : x.plain <;> simp
theorem Wr.glued (l t : Bytes) (x : TS) : Wr [.g t] x (gluedS l t x) := by
  refine ⟨[((if nxt l x.a 4 = 1 then [32] else []), t)], .cons ?_ rfl ?_ ?_ (.nil rfl rfl)⟩
  · intro c hc
    have h32 : Pq.isBlk 32 = true := by decide
    split at hc
    · simp at hc; subst hc; exact h32
    · cases hc
  · simp [gluedS]
  · simp [gluedS, Kd.psep, Kd.ptext]
theorem Wr.number (l : Bytes) (n : Nat) (b : Bool) (x : TS) : Wr [.n n b] x (numberS l n b x) := by
  refine ⟨[(blankB b, nought l n x ++ Pq.numTxt n)], .cons ?_ ?_ ?_ ?_ (.nil rfl rfl)⟩
  · have h32 : Pq.isBlk 32 = true := by decide
    refine ⟨fun hb => by subst hb; simp [blankB], fun c hc => ?_⟩
    unfold blankB at hc; split at hc
    · simp at hc; subst hc; exact h32
    · cases hc
  · unfold nought; split
    · rename_i h; exact .inr ⟨h.1, rfl⟩
    · exact .inl rfl
  · simp [numberS]
  · cases b <;> simp [numberS, Kd.psep, Kd.ptext, blankB]
/-! the tokens of each part of a query -/
def kCol (c : Nat × Bool) : List Kd := .w (Pq.colTxt c.1) :: (if c.2 then [.w Pq.wDesc] else [])
/-- with , between each two -/
def kJoin : List (List Kd) → List Kd
  | [] => []
  | [x] => x
  | x :: y :: r => x ++ (.g [44] :: kJoin (y :: r))
def kEdge (e : Pq.Edge) : List Kd := if e.kind = 0 then [.w Pq.wStart] else if e.kind = 1 then [.w Pq.wEnd] else if e.kind = 2 then [.w Pq.wHere] else if e.kind = 3 then [.n e.num.toNat true, .w Pq.wBack] else [.n e.num.toNat true, .w Pq.wOn]
def kFrame (f : Pq.Frame) : List Kd := if f.kind = 0 then [.w Pq.wAll] else if f.kind = 1 then [.w Pq.wPeers] else if f.kind = 2 then [.w Pq.wNear, .n f.num.toNat true] else kEdge f.frm ++ (.w Pq.wTo :: kEdge f.to)
def kFn (f : Pq.Fn) : List Kd :=
  if f.kind < 3 then [.w (Pq.kindTxt f.kind)]
  else if f.kind = 3 then [.w (Pq.kindTxt 3), .g [40], .n f.num.toNat false, .g [41]]
  else if f.kind < 6 then [.w (Pq.kindTxt f.kind), .g [40], .g (Pq.colTxt f.col), .g [44], .n f.num.toNat true, .g [41]]
  else [.w (Pq.kindTxt f.kind), .g [40], .g (Pq.colTxt f.col), .g [44]] ++ kFrame f.frame ++ [.g [41]]
theorem colW_eq (j : Nat) (h : j < 5) : colW j = Pq.colTxt (j % 3) := by
  match j, h with
  | 0, _ => rfl
  | 1, _ => rfl
  | 2, _ => rfl
  | 3, _ => rfl
  | 4, _ => rfl
theorem kJoin_snoc : ∀ (xs : List (List Kd)) (x : List Kd), kJoin (xs ++ [x]) = if xs = [] then x else kJoin xs ++ (.g [44] :: x)
  | [], _ => rfl
  | [_], _ => by simp [kJoin]
  | a :: b :: r, x => by
    have ih := kJoin_snoc (b :: r) x
    simp only [List.cons_append, kJoin] at ih ⊢
    rw [ih]; simp
end Pk
end Go.Proofs.YtcoofnhdbejnpaaGreatDoor

/- Plain mathematics: what the maker of queries writes. -/
namespace Go.Proofs.YtcoofnhdbejnpaaGreatDoor
namespace Pk
open Pq (Bytes)
theorem Em.plain {ks : List Kd} {x y : TS} {I : List (Bytes × Bytes)} (h : Em ks x I y) : y.plain = plainOf x.plain ks := by
  induction ks, x, I, y, h using Em_ind with
  | nil hr hp => simpa [plainOf] using hp
  | cons hs ht hr hp _ ih => rw [ih, hp]; rfl
theorem Em.raw {ks : List Kd} {x y : TS} {I : List (Bytes × Bytes)} (h : Em ks x I y) : y.raw = x.raw ++ Pq.flat I := by
  induction ks, x, I, y, h using Em_ind with
  | nil hr hp => simpa [Pq.flat] using hr
  | cons hs ht hr hp _ ih => rw [ih, hr]; simp [Pq.flat]
theorem Wr.one {k : Kd} {ks : List Kd} {x y z : TS} (h : Wr [k] x y) (h2 : Wr ks y z) : Wr (k :: ks) x z := h.app h2
theorem desc_wr (l : Bytes) (keys : Bool) (x : TS) : ∃ d : Bool, (keys = false → d = false) ∧ Wr (if d then [.w Pq.wDesc] else []) x (descS l keys x) := by
  unfold descS
  repeat' split
  · exact ⟨true, fun h => by simp_all, (Wr.eat x l).app (Wr.word l _ _)⟩
  · exact ⟨false, fun _ => rfl, Wr.eat x l⟩
  · exact ⟨false, fun _ => rfl, Wr.nil x⟩
theorem cols_to (l : Bytes) (keys : Bool) (a : Nat) (ha : a < 3) (x : TS) : ∀ k, k ≤ 3 → ∃ cs : List (Nat × Bool), cs.map Prod.fst = (List.range k).map (fun i => (a + i) % 3) ∧ (keys = false → ∀ c ∈ cs, c.2 = false) ∧ Wr (kJoin (cs.map kCol)) x (colsTo l keys a k x)
  | 0, _ => ⟨[], rfl, (fun _ c hc => by cases hc), Wr.nil x⟩
  | k + 1, hk => by
    obtain ⟨cs, h1, h2, h3⟩ := cols_to l keys a ha x k (by omega)
    obtain ⟨d, hd, hw⟩ := desc_wr l keys (wordS l (colW (a + k)) (commaS l k (colsTo l keys a k x)))
    refine ⟨cs ++ [((a + k) % 3, d)], by simp [h1, List.range_succ], ?_, ?_⟩
    · intro hke c hc
      rcases List.mem_append.1 hc with hc | hc
      · exact h2 hke c hc
      · simp at hc; subst hc; exact hd hke
    · have hl : cs.length = k := by have := congrArg List.length h1; simpa using this
      have hword : Wr (kCol ((a + k) % 3, d)) (commaS l k (colsTo l keys a k x)) (colsTo l keys a (k + 1) x) := by
        have hk2 : kCol ((a + k) % 3, d) = .w (colW (a + k)) :: (if d then [.w Pq.wDesc] else []) := by rw [colW_eq _ (by omega)]; rfl
        rw [hk2]
        exact (Wr.word l (colW (a + k)) (commaS l k (colsTo l keys a k x))).one hw
      rw [List.map_append, List.map_cons, List.map_nil, kJoin_snoc]
      by_cases h0 : k = 0
      · have hcs : cs = [] := List.eq_nil_of_length_eq_zero (by omega)
        subst hcs
        subst h0
        exact hword
      · have hne : cs.map kCol ≠ [] := by intro e; have := congrArg List.length e; simp at this; rw [this] at hl; simp at hl; omega
        rw [if_neg hne]
        have hc : commaS l k (colsTo l keys a k x) = gluedS l [44] (colsTo l keys a k x) := by unfold commaS; rw [if_pos (by omega)]
        rw [hc] at hword
        exact h3.app ((Wr.glued l [44] _).one hword)
structure GoodCols (cs : List (Nat × Bool)) : Prop where
  ne : cs ≠ []
  nodup : (cs.map Prod.fst).Nodup
  lt : ∀ c ∈ cs, c.1 < 3
theorem cols_wr (l : Bytes) (keys : Bool) (x : TS) : ∃ cs : List (Nat × Bool), GoodCols cs ∧ (keys = false → ∀ c ∈ cs, c.2 = false) ∧ Wr (kJoin (cs.map kCol)) x (colsS l keys x) := by
  have ha := nxt_lt l x.a 3 (by omega)
  have hn := nxt_lt l (adv l x.a) 3 (by omega)
  obtain ⟨cs, h1, h2, h3⟩ := cols_to l keys (nxt l x.a 3) ha ((x.eat l).eat l) (1 + nxt l (adv l x.a) 3) (by omega)
  refine ⟨cs, ⟨?_, ?_, ?_⟩, h2, ?_⟩
  · intro e; rw [e] at h1; have := congrArg List.length h1; simp at this; omega
  · rw [h1]
    generalize nxt l x.a 3 = a at ha
    generalize nxt l (adv l x.a) 3 = n at hn
    have hall : ∀ a : Fin 3, ∀ n : Fin 3, ((List.range (1 + n.val)).map (fun i => (a.val + i) % 3)).Nodup := by decide
    exact hall ⟨a, ha⟩ ⟨n, hn⟩
  · intro c hc
    have hm : c.1 ∈ cs.map Prod.fst := List.mem_map_of_mem hc
    rw [h1] at hm
    obtain ⟨i, _, e⟩ := List.mem_map.1 hm
    omega
  · exact ((Wr.eat x l).app (Wr.eat _ l)).app h3
structure GoodEdge (e : Pq.Edge) : Prop where
  kind : e.kind < 5
  zero : e.kind < 3 → e.num = 0
  num : Pq.goodNum e.num
theorem edge_wr (l : Bytes) (x : TS) : ∃ e : Pq.Edge, GoodEdge e ∧ Wr (kEdge e) x (edgeS l x) := by
  have hk := nxt_lt l x.a 5 (by omega)
  have hn := nxt_lt l (adv l x.a) 5 (by omega)
  unfold edgeS
  generalize nxt l x.a 5 = k at *
  generalize nxt l (adv l x.a) 5 = n at *
  split
  · rename_i h3
    refine ⟨⟨k, 0⟩, ⟨hk, fun _ => rfl, ⟨by simp, by simp⟩⟩, ?_⟩
    have := (Wr.eat x l).app (Wr.word l (edgeW k) (x.eat l))
    match k, h3 with
    | 0, _ => exact this
    | 1, _ => exact this
    | 2, _ => exact this
  · rename_i h3
    refine ⟨⟨k, n⟩, ⟨hk, fun h => absurd h h3, ⟨by simp, by simp; omega⟩⟩, ?_⟩
    have := (((Wr.eat x l).app (Wr.eat _ l)).app (Wr.number l n true _)).app (Wr.word l (edgeW k) _)
    match k, hk, h3 with
    | 3, _, _ => exact this
    | 4, _, _ => exact this
    | 0, _, h3 => exact absurd (by omega) h3
    | 1, _, h3 => exact absurd (by omega) h3
    | 2, _, h3 => exact absurd (by omega) h3
def e0 : Pq.Edge := ⟨0, 0⟩
def GoodFrame (f : Pq.Frame) : Prop := ∀ M : Pq.Frame → Prop, (M ⟨0, 0, e0, e0⟩) → (M ⟨1, 0, e0, e0⟩) → (∀ (n : Nat), n < 100 → M ⟨2, n, e0, e0⟩) → (∀ (a : Pq.Edge) (b : Pq.Edge), GoodEdge a → GoodEdge b → M ⟨3, 0, a, b⟩) → M f
theorem GoodFrame.all  : GoodFrame ⟨0, 0, e0, e0⟩ := fun _ r0 _ _ _ => r0 
theorem GoodFrame.peers  : GoodFrame ⟨1, 0, e0, e0⟩ := fun _ _ r1 _ _ => r1 
theorem GoodFrame.near (n : Nat) (h : n < 100) : GoodFrame ⟨2, n, e0, e0⟩ := fun _ _ _ r2 _ => r2 n h
theorem GoodFrame.between (a : Pq.Edge) (b : Pq.Edge) (ha : GoodEdge a) (hb : GoodEdge b) : GoodFrame ⟨3, 0, a, b⟩ := fun _ _ _ _ r3 => r3 a b ha hb
theorem GoodFrame_ind {motive : (f : Pq.Frame) → GoodFrame f → Prop} (all : motive ⟨0, 0, e0, e0⟩ GoodFrame.all) (peers : motive ⟨1, 0, e0, e0⟩ GoodFrame.peers) (near : ∀ (n : Nat) (h : n < 100), motive ⟨2, n, e0, e0⟩ (GoodFrame.near n h)) (between : ∀ (a : Pq.Edge) (b : Pq.Edge) (ha : GoodEdge a) (hb : GoodEdge b), motive ⟨3, 0, a, b⟩ (GoodFrame.between a b ha hb)) (f : Pq.Frame) (h : GoodFrame f) : motive f h := by
  obtain ⟨_, q⟩ := h (fun f => ∃ h : GoodFrame f, motive f h) ⟨_, all⟩ ⟨_, peers⟩ (fun n h => ⟨_, near n h⟩) (fun a b ha hb => ⟨_, between a b ha hb⟩)
  exact q
theorem frame_wr (l : Bytes) (x : TS) : ∃ f : Pq.Frame, GoodFrame f ∧ Wr (kFrame f) x (frameS l x) := by
  unfold frameS
  repeat' split
  · exact ⟨_, .all, (Wr.eat x l).app (Wr.word l Pq.wAll _)⟩
  · exact ⟨_, .peers, ((Wr.eat x l).app (Wr.eat _ l)).app (Wr.word l Pq.wPeers _)⟩
  · have hn := nxt_lt l (wordS l Pq.wNear (((x.eat l).eat l).eat l)).a 20 (by omega)
    refine ⟨_, .near (nxt l (wordS l Pq.wNear (((x.eat l).eat l).eat l)).a 20) (by omega), ?_⟩
    exact (((Wr.eat x l).app (Wr.eat _ l)).app (Wr.eat _ l)).app ((Wr.word l Pq.wNear _).one ((Wr.eat _ l).app (Wr.number l _ true _)))
  · obtain ⟨a, ha, wa⟩ := edge_wr l (((x.eat l).eat l).eat l)
    obtain ⟨b, hb, wb⟩ := edge_wr l (wordS l Pq.wTo (edgeS l (((x.eat l).eat l).eat l)))
    exact ⟨_, .between a b ha hb, (((Wr.eat x l).app (Wr.eat _ l)).app (Wr.eat _ l)).app (wa.app ((Wr.word l Pq.wTo _).one wb))⟩
def GoodFn (f : Pq.Fn) : Prop := ∀ M : Pq.Fn → Prop, (∀ (k : Nat), k < 3 → M ⟨k, 0, 0, Pq.fr0⟩) → (∀ (n : Nat), n < 100 → 0 < n → M ⟨3, 0, n, Pq.fr0⟩) → (∀ (k : Nat) (c : Nat) (n : Nat), (k = 4 ∨ k = 5) → c < 3 → n < 100 → M ⟨k, c, n, Pq.fr0⟩) → (∀ (k : Nat) (c : Nat) (f : Pq.Frame), 6 ≤ k → k < 12 → c < 3 → GoodFrame f → M ⟨k, c, 0, f⟩) → M f
theorem GoodFn.plain (k : Nat) (h : k < 3) : GoodFn ⟨k, 0, 0, Pq.fr0⟩ := fun _ r0 _ _ _ => r0 k h
theorem GoodFn.tile (n : Nat) (h : n < 100) (h0 : 0 < n) : GoodFn ⟨3, 0, n, Pq.fr0⟩ := fun _ _ r1 _ _ => r1 n h h0
theorem GoodFn.lag (k : Nat) (c : Nat) (n : Nat) (hk : (k = 4 ∨ k = 5)) (hc : c < 3) (h : n < 100) : GoodFn ⟨k, c, n, Pq.fr0⟩ := fun _ _ _ r2 _ => r2 k c n hk hc h
theorem GoodFn.over (k : Nat) (c : Nat) (f : Pq.Frame) (h6 : 6 ≤ k) (hk : k < 12) (hc : c < 3) (hf : GoodFrame f) : GoodFn ⟨k, c, 0, f⟩ := fun _ _ _ _ r3 => r3 k c f h6 hk hc hf
theorem GoodFn_ind {motive : (f : Pq.Fn) → GoodFn f → Prop} (plain : ∀ (k : Nat) (h : k < 3), motive ⟨k, 0, 0, Pq.fr0⟩ (GoodFn.plain k h)) (tile : ∀ (n : Nat) (h : n < 100) (h0 : 0 < n), motive ⟨3, 0, n, Pq.fr0⟩ (GoodFn.tile n h h0)) (lag : ∀ (k : Nat) (c : Nat) (n : Nat) (hk : (k = 4 ∨ k = 5)) (hc : c < 3) (h : n < 100), motive ⟨k, c, n, Pq.fr0⟩ (GoodFn.lag k c n hk hc h)) (over : ∀ (k : Nat) (c : Nat) (f : Pq.Frame) (h6 : 6 ≤ k) (hk : k < 12) (hc : c < 3) (hf : GoodFrame f), motive ⟨k, c, 0, f⟩ (GoodFn.over k c f h6 hk hc hf)) (f : Pq.Fn) (h : GoodFn f) : motive f h := by
  obtain ⟨_, q⟩ := h (fun f => ∃ h : GoodFn f, motive f h) (fun k h => ⟨_, plain k h⟩) (fun n h h0 => ⟨_, tile n h h0⟩) (fun k c n hk hc h => ⟨_, lag k c n hk hc h⟩) (fun k c f h6 hk hc hf => ⟨_, over k c f h6 hk hc hf⟩)
  exact q
theorem colArg_wr (l : Bytes) (x : TS) : ∃ c, c < 3 ∧ Wr [.g [40], .g (Pq.colTxt c), .g [44]] x (colArg l x) := by
  have hn := nxt_lt l (gluedS l [40] x).a 3 (by omega)
  refine ⟨nxt l (gluedS l [40] x).a 3, hn, ?_⟩
  have := (Wr.glued l [40] x).one ((Wr.eat _ l).app ((Wr.glued l (colW (nxt l (gluedS l [40] x).a 3)) _).one (Wr.glued l [44] _)))
  rw [colW_eq _ (by omega), Nat.mod_eq_of_lt hn] at this
  unfold colArg
  rw [colW_eq _ (by omega), Nat.mod_eq_of_lt hn]
  exact this
theorem fun_wr (l : Bytes) (x : TS) : ∃ f : Pq.Fn, GoodFn f ∧ Wr (kFn f) x (funS l x) := by
  have hk := nxt_lt l x.a 12 (by omega)
  have hy := (Wr.eat x l).app (Wr.word l (Pq.kindTxt (nxt l x.a 12)) (x.eat l))
  unfold funS
  simp only
  generalize nxt l x.a 12 = k at *
  generalize wordS l (Pq.kindTxt k) (x.eat l) = y at *
  repeat' split
  · rename_i h3
    exact ⟨_, .plain k h3, by simpa [kFn, h3] using hy⟩
  · rename_i h3 h4
    subst h4
    have hn := nxt_lt l (gluedS l [40] y).a 6 (by omega)
    refine ⟨_, .tile (1 + nxt l (gluedS l [40] y).a 6) (by omega) (by omega), ?_⟩
    have := hy.app ((Wr.glued l [40] y).one ((Wr.eat _ l).app ((Wr.number l (1 + nxt l (gluedS l [40] y).a 6) false _).one (Wr.glued l [41] _))))
    exact this
  · rename_i h3 h4 h6
    obtain ⟨c, hc, wc⟩ := colArg_wr l y
    have hn := nxt_lt l (colArg l y).a 4 (by omega)
    refine ⟨_, .lag k c (nxt l (colArg l y).a 4) (by omega) hc (by omega), ?_⟩
    have := hy.app (wc.app ((Wr.eat _ l).app ((Wr.number l (nxt l (colArg l y).a 4) true _).one (Wr.glued l [41] _))))
    simpa [kFn, h3, h4, h6, lagS] using this
  · rename_i h3 h4 h6
    obtain ⟨c, hc, wc⟩ := colArg_wr l y
    obtain ⟨f, hf, wf⟩ := frame_wr l (colArg l y)
    refine ⟨_, .over k c f (by omega) hk hc hf, ?_⟩
    have := hy.app (wc.app (wf.app (Wr.glued l [41] _)))
    simpa [kFn, h3, h4, h6] using this
theorem funs_to (l : Bytes) (x : TS) : ∀ k, ∃ fs : List Pq.Fn, fs.length = k ∧ (∀ f ∈ fs, GoodFn f) ∧ Wr (kJoin (fs.map kFn)) x (funsTo l k x)
  | 0 => ⟨[], rfl, (fun c hc => by cases hc), Wr.nil x⟩
  | k + 1 => by
    obtain ⟨fs, hl, hg, hw⟩ := funs_to l x k
    obtain ⟨f, hf, wf⟩ := fun_wr l (commaS l k (funsTo l k x))
    refine ⟨fs ++ [f], by simp [hl], ?_, ?_⟩
    · intro g hg'
      rcases List.mem_append.1 hg' with h | h
      · exact hg g h
      · simp at h; subst h; exact hf
    · rw [List.map_append, List.map_cons, List.map_nil, kJoin_snoc]
      by_cases h0 : k = 0
      · have hfs : fs = [] := List.eq_nil_of_length_eq_zero (by omega)
        subst hfs
        subst h0
        exact wf
      · have hne : fs.map kFn ≠ [] := by intro e; have := congrArg List.length e; simp at this; rw [this] at hl; simp at hl; omega
        rw [if_neg hne]
        have hc : commaS l k (funsTo l k x) = gluedS l [44] (funsTo l k x) := by unfold commaS; rw [if_pos (by omega)]
        have e : funsTo l (k + 1) x = funS l (commaS l k (funsTo l k x)) := rfl
        rw [e]
        rw [hc] at wf ⊢
        exact hw.app ((Wr.glued l [44] _).one wf)
end Pk
end Go.Proofs.YtcoofnhdbejnpaaGreatDoor

/- Plain mathematics: what is written so falls into its tokens again. -/
namespace Go.Proofs.YtcoofnhdbejnpaaGreatDoor
namespace Pk
open Pq (Bytes)
def Kd.isSign : Kd → Bool
  | ⟨.inr (.inl t)⟩ => match t with | [c] => Pq.isSgn c | _ => false
  | _ => false
def Kd.apart : Kd → Prop
  | ⟨.inl _⟩ => True
  | ⟨.inr (.inl t)⟩ => (Kd.g t).isSign = true
  | ⟨.inr (.inr (_, b))⟩ => b = true
def Kd.Ok : Kd → Prop
  | ⟨.inl t⟩ => Pq.Tk t
  | ⟨.inr (.inl t)⟩ => Pq.Tk t
  | ⟨.inr (.inr (k, _))⟩ => k < 100
/-- no two tokens run into each other -/
def Adj (ps : Bool) : List Kd → Prop
  | [] => True
  | k :: r => (ps = true ∨ k.apart) ∧ k.Ok ∧ Adj k.isSign r
theorem numTxt_dig (k : Nat) (h : k < 100) : Pq.numTxt k ≠ [] ∧ (Pq.numTxt (k : Int)).length ≤ 2 ∧ ∀ c ∈ Pq.numTxt k, Pq.isDig c = true := by
  have hall : ∀ k : Fin 100, Pq.numTxt (k.val : Int) ≠ [] ∧ (Pq.numTxt (k.val : Int)).length ≤ 2 ∧ ∀ c ∈ Pq.numTxt (k.val : Int), Pq.isDig c = true := by decide +kernel
  exact hall ⟨k, h⟩
theorem text_tk {k : Kd} {t : Bytes} (hk : k.Ok) (ht : k.Text t) : Pq.Tk t := by
  induction k using Kd_ind with
  | w x => rw [show t = x from ht]; exact hk
  | g x => rw [show t = x from ht]; exact hk
  | n k b =>
    obtain ⟨h0, h2, hd⟩ := numTxt_dig k hk
    rcases ht with rfl | ⟨h10, rfl⟩
    · exact .digits _ h0 h2 hd
    · refine .digits _ (by simp) ?_ ?_
      · have := numTxt_small h10; simp [this]
      · intro c hc
        rcases List.mem_cons.1 hc with rfl | hc
        · decide
        · exact hd c hc
theorem ptext_ne {k : Kd} (hk : k.Ok) : k.ptext ≠ [] := by
  induction k using Kd_ind with
  | w x => obtain ⟨a, t', e, _⟩ := Pq.tk_blk (show Pq.Tk x from hk); simp [Kd.ptext, e]
  | g x => obtain ⟨a, t', e, _⟩ := Pq.tk_blk (show Pq.Tk x from hk); simp [Kd.ptext, e]
  | n k b => exact (numTxt_dig k hk).1
theorem isSign_g {t : Bytes} (h : (Kd.g t).isSign = true) : ∃ c, t = [c] ∧ Pq.isSgn c = true := by
  match t, h with
  | [c], h => exact ⟨c, rfl, h⟩
  | [], h => simp [Kd.isSign] at h
  | _ :: _ :: _, h => simp [Kd.isSign] at h
theorem Em.wrote {ks : List Kd} {x y : TS} {I : List (Bytes × Bytes)} (h : Em ks x I y) : ∀ ps, Adj ps ks → Pq.Wrote I ∧ (x.plain ≠ [] → ps = false → ∀ c r, Pq.flat I = c :: r → Pq.isOther c) := by
  induction ks, x, I, y, h using Em_ind with
  | nil hr hp => exact fun ps _ => ⟨trivial, fun _ _ c r e => by cases e⟩
  | @cons k ks x y z s t I hs ht hr hp _ ih =>
    intro ps ha
    obtain ⟨h1, h2, h3⟩ := ha
    obtain ⟨w1, w2⟩ := ih _ h3
    have hblk : ∀ c ∈ s, Pq.isBlk c = true := by induction k using Kd_ind with | w => exact hs.2 | g => exact hs | n => exact hs.2
    have htk := text_tk h2 ht
    have hyne : y.plain ≠ [] := by rw [hp]; have := ptext_ne h2; simp [this]
    refine ⟨⟨hblk, htk, ?_, w1⟩, ?_⟩
    · by_cases hsg : k.isSign = true
      · left
        induction k using Kd_ind with
        | w x => simp [Kd.isSign] at hsg
        | n a b => simp [Kd.isSign] at hsg
        | g x =>
          rw [show t = x from ht]
          exact isSign_g hsg
      · right
        exact w2 hyne (by simpa using hsg)
    · intro hx hps c r e
      simp only [Pq.flat] at e
      cases s with
      | cons a s' =>
        simp at e
        rw [← e.1]
        exact Pq.blk_other (hblk a (by simp))
      | nil =>
        have hap : k.apart := by rcases h1 with h1 | h1 <;> simp_all
        have hem : x.plain.isEmpty = false := by cases hxx : x.plain with | nil => exact absurd hxx hx | cons => rfl
        induction k using Kd_ind with
        | w u => rcases hs.1 with h | h
                 · rw [hem] at h; cases h
                 · exact absurd rfl h
        | n u b => exact absurd rfl (hs.1 hap)
        | g u =>
          have hu : t = u := ht
          subst hu
          have hsg : (Kd.g t).isSign = true := hap
          obtain ⟨d, hd, hs'⟩ := isSign_g hsg
          rw [hd] at e
          simp at e
          rw [← e.1]; exact Pq.sgn_other hs'
/-- a token that stands for k -/
def TokK (k : Kd) (t : Pq.Tok) : Prop := k.Text t.text ∧ t.num = Pq.headDig t.text
def Mt : List Kd → List Pq.Tok → Prop
  | [], [] => True
  | k :: ks, t :: ts => TokK k t ∧ Mt ks ts
  | _, _ => False
theorem Mt.nil : Mt [] [] := trivial
theorem Mt.cons {k : Kd} {ks : List Kd} {t : Pq.Tok} {ts : List Pq.Tok} (h : TokK k t) (hs : Mt ks ts) : Mt (k :: ks) (t :: ts) := ⟨h, hs⟩
theorem Mt_nil {ts : List Pq.Tok} (h : Mt [] ts) : ts = [] := by
  cases ts with
  | nil => rfl
  | cons t ts => exact absurd h (fun q => q)
theorem Mt_cons {k : Kd} {ks : List Kd} {ts : List Pq.Tok} (h : Mt (k :: ks) ts) : ∃ t ts', ts = t :: ts' ∧ TokK k t ∧ Mt ks ts' := by
  cases ts with
  | nil => exact absurd h (fun q => q)
  | cons t ts => exact ⟨t, ts, rfl, h.1, h.2⟩
theorem Em.mt {ks : List Kd} {x y : TS} {I : List (Bytes × Bytes)} (h : Em ks x I y) : ∀ ts : List Pq.Tok, ts.map (fun t => (t.text, t.num)) = I.map (fun i => (i.2, Pq.headDig i.2)) → Mt ks ts := by
  induction ks, x, I, y, h using Em_ind with
  | nil hr hp => intro ts e; simp at e; subst e; exact .nil
  | cons hs ht hr hp _ ih =>
    intro ts e
    cases ts with
    | nil => simp at e
    | cons a ts =>
      simp only [List.map_cons, List.cons.injEq, Prod.mk.injEq] at e
      exact .cons ⟨by rw [e.1.1]; exact ht, by rw [e.1.2, e.1.1]⟩ (ih ts e.2)
/-- a text that was written token by token, read -/
theorem read_toks {ks : List Kd} {y : TS} (h : Wr ks ⟨0, [], []⟩ y) (ha : Adj true ks) : (Pq.lexFrom y.raw 0).2 = -1 ∧ Mt ks (Pq.toksOf y.raw) := by
  obtain ⟨I, h⟩ := h
  have hw := (h.wrote true ha).1
  have hr : y.raw = Pq.flat I := by have := h.raw; simpa using this
  have hl := Pq.lex_flat I [] hw
  simp only [List.nil_append, List.length_nil] at hl
  rw [hr]
  exact ⟨hl.1, h.mt _ hl.2⟩
end Pk
end Go.Proofs.YtcoofnhdbejnpaaGreatDoor

