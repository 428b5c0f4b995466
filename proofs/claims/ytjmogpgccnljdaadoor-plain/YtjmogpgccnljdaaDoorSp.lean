/- Plain functions on bytes: what package queries' leaves answer. Nothing of the program is read here. -/
namespace Go.Proofs.YtjmogpgccnljdaaDoor
namespace Pq
abbrev Bytes := List UInt8
def isDig (c : UInt8) : Bool := decide ((48 : Int) ≤ (c.toNat : Int)) && decide ((c.toNat : Int) ≤ 57)
def isLet (c : UInt8) : Bool := decide ((97 : Int) ≤ (c.toNat : Int)) && decide ((c.toNat : Int) ≤ 122)
def isBlk (c : UInt8) : Bool := ((c.toNat : Int) == 32) || ((c.toNat : Int) == 10)
def isSgn (c : UInt8) : Bool := ((c.toNat : Int) == 40) || ((c.toNat : Int) == 41) || ((c.toNat : Int) == 44)
/-- where the row of bytes of kind p that goes on at place n ends -/
def rowEnd (p : UInt8 → Bool) (l : Bytes) (n : Nat) : Nat := n + ((l.drop n).takeWhile p).length
theorem rowEnd_stop {p : UInt8 → Bool} {l : Bytes} {n : Nat} (h : n < l.length) (hp : p l[n] = false) : rowEnd p l n = n := by
  unfold rowEnd; rw [List.drop_eq_getElem_cons h, List.takeWhile_cons]; simp [hp]
theorem rowEnd_step {p : UInt8 → Bool} {l : Bytes} {n : Nat} (h : n < l.length) (hp : p l[n] = true) : rowEnd p l n = rowEnd p l (n + 1) := by
  unfold rowEnd; rw [List.drop_eq_getElem_cons h, List.takeWhile_cons]; simp only [hp, if_true, List.length_cons]; omega
theorem rowEnd_end {p : UInt8 → Bool} {l : Bytes} {n : Nat} (h : l.length ≤ n) : rowEnd p l n = n := by
  simp [rowEnd, List.drop_eq_nil_of_le h]
theorem rowEnd_ge (p : UInt8 → Bool) (l : Bytes) (n : Nat) : n ≤ rowEnd p l n := by simp [rowEnd]
theorem rowEnd_le (p : UInt8 → Bool) (l : Bytes) (n : Nat) (h : n ≤ l.length) : rowEnd p l n ≤ l.length := by
  have : ((l.drop n).takeWhile p).length ≤ (l.drop n).length := (List.takeWhile_sublist _).length_le
  simp at this; unfold rowEnd; omega
/-- where the token ends that begins at n: n itself, if none does -/
def tokEnd (l : Bytes) (n : Nat) : Nat :=
  if h : n < l.length then
    if isSgn l[n] then n + 1
    else if isDig l[n] then (if rowEnd isDig l n - n > 2 then n else rowEnd isDig l n)
    else if isLet l[n] then (if rowEnd isLet l n - n > 8 then n else rowEnd isLet l n)
    else n
  else n
theorem rowEnd_gt {p : UInt8 → Bool} {l : Bytes} {n : Nat} (h : n < l.length) (hp : p l[n] = true) : n < rowEnd p l n := by
  rw [rowEnd_step h hp]; have := rowEnd_ge p l (n + 1); omega
theorem tokEnd_ge (l : Bytes) (n : Nat) : n ≤ tokEnd l n := by
  unfold tokEnd
  have h1 := rowEnd_ge isDig l n; have h2 := rowEnd_ge isLet l n
  repeat' split
  all_goals omega
theorem tokEnd_le (l : Bytes) (n : Nat) (h : n ≤ l.length) : tokEnd l n ≤ l.length := by
  unfold tokEnd
  have h1 := rowEnd_le isDig l n h; have h2 := rowEnd_le isLet l n h
  repeat' split
  all_goals omega
/-- a row of digits as a number -/
def worth (l : Bytes) : Int := l.foldl (fun n c => n * 10 + ((c.toNat : Int) - 48)) 0
theorem worth_snoc (l : Bytes) (c : UInt8) : worth (l ++ [c]) = worth l * 10 + ((c.toNat : Int) - 48) := by simp [worth]
theorem worth_bd : ∀ (k : Nat) (l : Bytes), l.length ≤ k → (∀ c ∈ l, isDig c = true) → 0 ≤ worth l ∧ worth l + 1 ≤ 10 ^ k := by
  intro k
  induction k with
  | zero => intro l h _; have : l = [] := List.eq_nil_of_length_eq_zero (by omega); subst this; simp [worth]
  | succ k ih =>
    intro l h hd
    rcases List.eq_nil_or_concat l with rfl | ⟨m, c, rfl⟩
    · have : (0 : Int) < 10 ^ (k + 1) := Int.pow_pos (by omega)
      simp [worth]; omega
    · simp only [List.concat_eq_append, List.length_append, List.length_cons, List.length_nil] at h hd ⊢
      have h1 := ih m (by omega) (fun c hc => hd c (by simp [hc]))
      have h2 := hd c (by simp)
      simp only [isDig, Bool.and_eq_true, decide_eq_true_eq] at h2
      rw [worth_snoc, Int.pow_succ]; omega
structure Tok where
  text : Bytes
  at' : Nat
  num : Bool
/-- the tokens from place n on, and the place of a byte that begins none, or -1 -/
def lexFrom (l : Bytes) (n : Nat) : List Tok × Int :=
  if h : n < l.length then
    if isBlk l[n] then lexFrom l (n + 1)
    else if tokEnd l n ≤ n then ([], (n : Int))
    else ({ text := (l.take (tokEnd l n)).drop n, at' := n, num := isDig l[n] } :: (lexFrom l (tokEnd l n)).1, (lexFrom l (tokEnd l n)).2)
  else ([], -1)
  termination_by l.length - n
  decreasing_by
  all_goals (try have := tokEnd_le l n (by omega)); omega
theorem lexFrom_end {l : Bytes} {n : Nat} (h : ¬ n < l.length) : lexFrom l n = ([], -1) := by rw [lexFrom, dif_neg h]
theorem lexFrom_blk {l : Bytes} {n : Nat} (h : n < l.length) (hb : isBlk l[n] = true) : lexFrom l n = lexFrom l (n + 1) := by rw [lexFrom, dif_pos h, if_pos hb]
theorem lexFrom_bad {l : Bytes} {n : Nat} (h : n < l.length) (hb : isBlk l[n] = false) (he : tokEnd l n ≤ n) : lexFrom l n = ([], (n : Int)) := by rw [lexFrom, dif_pos h, if_neg (by simp [hb]), if_pos he]
theorem lexFrom_tok {l : Bytes} {n : Nat} (h : n < l.length) (hb : isBlk l[n] = false) (he : n < tokEnd l n) :
    lexFrom l n = ({ text := (l.take (tokEnd l n)).drop n, at' := n, num := isDig l[n] } :: (lexFrom l (tokEnd l n)).1, (lexFrom l (tokEnd l n)).2) := by
  rw [lexFrom, dif_pos h, if_neg (by simp [hb]), if_neg (by omega)]
/-! the parser, as a machine on numbers -/
structure Edge where
  kind : Nat
  num : Int
structure Frame where
  kind : Nat
  num : Int
  frm : Edge
  to : Edge
structure Fn where
  kind : Nat
  col : Nat
  num : Int
  frame : Frame
structure PS where
  next : Nat
  failed : Bool
  by' : List Nat
  keys : List (Nat × Bool)
  funcs : List Fn
  hasTop : Bool
  top : Int
  frm : Int
  many : Int
  twice : Int
  arg : Int
def PS.fail (s : PS) : PS := { s with failed := true }
def PS.step (s : PS) : PS := { s with next := s.next + 1 }
/-- may the next token be taken as this text? -/
def takes (toks : List Tok) (t : Bytes) (s : PS) : Bool := !s.failed && (match toks[s.next]? with | some x => x.text == t | none => false)
def takeS (toks : List Tok) (t : Bytes) (s : PS) : PS := if takes toks t s then s.step else s
def wantS (toks : List Tok) (t : Bytes) (s : PS) : PS := if takes toks t s then s.step else s.fail
def placeS (toks : List Tok) (len : Nat) (s : PS) : Int := match toks[s.next]? with | some x => (x.at' : Int) | none => (len : Int)
def isNum (toks : List Tok) (s : PS) : Bool := !s.failed && (match toks[s.next]? with | some x => x.num | none => false)
def numS (toks : List Tok) (s : PS) : PS := if isNum toks s then s.step else s.fail
def numV (toks : List Tok) (s : PS) : Int := if isNum toks s then (match toks[s.next]? with | some x => worth x.text | none => 0) else 0
def colTxt : Nat → Bytes | 0 => [112] | 1 => [107] | _ => [118]
def kindTxt : Nat → Bytes
  | 0 => [110, 117, 109, 98, 101, 114] | 1 => [114, 97, 110, 107] | 2 => [100, 101, 110, 115, 101] | 3 => [116, 105, 108, 101]
  | 4 => [108, 97, 103] | 5 => [108, 101, 97, 100] | 6 => [99, 111, 117, 110, 116] | 7 => [115, 117, 109]
  | 8 => [109, 105, 110] | 9 => [109, 97, 120] | 10 => [102, 105, 114, 115, 116] | _ => [108, 97, 115, 116]
/-- the first of n texts that may be taken -/
def firstTake (toks : List Tok) (txt : Nat → Bytes) (n : Nat) (s : PS) : Option Nat := (List.range n).find? (fun j => takes toks (txt j) s)
theorem firstTake_some {toks : List Tok} {txt : Nat → Bytes} {n k : Nat} {s : PS} (hk : k < n) (h0 : ∀ j, j < k → takes toks (txt j) s = false) (h : takes toks (txt k) s = true) : firstTake toks txt n s = some k := by
  unfold firstTake
  rw [List.find?_eq_some_iff_append]
  refine ⟨h, List.range k, (List.range (n - k - 1)).map (· + (k + 1)), ?_, ?_⟩
  · have e : n = k + 1 + (n - k - 1) := by omega
    conv => lhs; rw [e, List.range_add, List.range_succ]
    simp [Nat.add_comm]
  · intro j hj; simpa using h0 j (by simpa using hj)
theorem firstTake_none {toks : List Tok} {txt : Nat → Bytes} {n : Nat} {s : PS} (h0 : ∀ j, j < n → takes toks (txt j) s = false) : firstTake toks txt n s = none := by
  unfold firstTake
  rw [List.find?_eq_none]
  intro j hj; simp [h0 j (by simpa using hj)]
def oneOfS (toks : List Tok) (txt : Nat → Bytes) (n : Nat) (s : PS) : PS := match firstTake toks txt n s with | some _ => s.step | none => s.fail
def oneOfV (toks : List Tok) (txt : Nat → Bytes) (n : Nat) (s : PS) : Nat := match firstTake toks txt n s with | some j => j | none => 0
def endS (toks : List Tok) (s : PS) : PS := if s.next < toks.length then s.fail else s
def twiceS (at' : Int) (s : PS) : PS := if s.twice = -1 then { s with twice := at' } else s
end Pq
end Go.Proofs.YtjmogpgccnljdaaDoor
