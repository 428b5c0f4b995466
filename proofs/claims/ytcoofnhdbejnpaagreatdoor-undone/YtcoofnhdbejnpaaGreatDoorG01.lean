/- Plain functions on bytes: what package queries' leaves answer. Nothing of the program is read here. -/
namespace Go.Proofs.YtcoofnhdbejnpaaGreatDoor
namespace Pq
abbrev Bytes := List UInt8
def isDig (c : UInt8) : Bool := decide ((48 : Int) ≤ (c.toNat : Int)) && decide ((c.toNat : Int) ≤ 57)
def isLet (c : UInt8) : Bool := decide ((97 : Int) ≤ (c.toNat : Int)) && decide ((c.toNat : Int) ≤ 122)
def isBlk (c : UInt8) : Bool := ((c.toNat : Int) == 32) || ((c.toNat : Int) == 10)
def isSgn (c : UInt8) : Bool := ((c.toNat : Int) == 40) || ((c.toNat : Int) == 41) || ((c.toNat : Int) == 44)
/-- where the row of bytes of kind p that goes on at place n ends -/
def rowEnd (p : UInt8 → Bool) (l : Bytes) (n : Nat) : Nat := n + ((l.drop n).takeWhile p).length
theorem rowEnd_stop {p : UInt8 → Bool} {l : Bytes} {n : Nat} (h : n < l.length) (hp : p l[n] = false) : rowEnd p l n = n := by
  unfold rowEnd; rw [List.drop_eq_getElem_cons h, List.takeWhile_cons]; simp [hp]
theorem rowEnd_step {p : UInt8 → Bool} {l : Bytes} {n : Nat} (h : n < l.length) (hp : p l[n] = true) : rowEnd p l n = rowEnd p l (n + 1) := by
  unfold rowEnd; rw [List.drop_eq_getElem_cons h, List.takeWhile_cons]; simp only [hp, if_true, List.length_cons]; omega
theorem rowEnd_end {p : UInt8 → Bool} {l : Bytes} {n : Nat} (h : l.length ≤ n) : rowEnd p l n = n := by
  simp [rowEnd, List.drop_eq_nil_of_le h]
theorem rowEnd_ge (p : UInt8 → Bool) (l : Bytes) (n : Nat) : n ≤ rowEnd p l n := by simp [rowEnd]
theorem rowEnd_le (p : UInt8 → Bool) (l : Bytes) (n : Nat) (h : n ≤ l.length) : rowEnd p l n ≤ l.length := by
  have : ((l.drop n).takeWhile p).length ≤ (l.drop n).length := (List.takeWhile_sublist _).length_le
  simp at this; unfold rowEnd; omega
/-- where the token ends that begins at n: n itself, if none does -/
def tokEnd (l : Bytes) (n : Nat) : Nat :=
  if h : n < l.length then
    if isSgn l[n] then n + 1
    else if isDig l[n] then (if rowEnd isDig l n - n > 2 then n else rowEnd isDig l n)
    else if isLet l[n] then (if rowEnd isLet l n - n > 8 then n else rowEnd isLet l n)
    else n
  else n
theorem tokEnd_ge (l : Bytes) (n : Nat) : n ≤ tokEnd l n := by
  unfold tokEnd
  have h1 := rowEnd_ge isDig l n; have h2 := rowEnd_ge isLet l n
  repeat' split
  all_goals omega
theorem tokEnd_le (l : Bytes) (n : Nat) (h : n ≤ l.length) : tokEnd l n ≤ l.length := by
  unfold tokEnd
  have h1 := rowEnd_le isDig l n h; have h2 := rowEnd_le isLet l n h
  repeat' split
  all_goals omega
/-- a row of digits as a number -/
def worth (l : Bytes) : Int := l.foldl (fun n c => n * 10 + ((c.toNat : Int) - 48)) 0
theorem worth_snoc (l : Bytes) (c : UInt8) : worth (l ++ [c]) = worth l * 10 + ((c.toNat : Int) - 48) := by simp [worth]
theorem worth_bd : ∀ (k : Nat) (l : Bytes), l.length ≤ k → (∀ c ∈ l, isDig c = true) → 0 ≤ worth l ∧ worth l + 1 ≤ 10 ^ k := by
  intro k
  induction k with
  | zero => intro l h _; have : l = [] := List.eq_nil_of_length_eq_zero (by omega); subst this; simp [worth]
  | succ k ih =>
    intro l h hd
    rcases List.eq_nil_or_concat l with rfl | ⟨m, c, rfl⟩
    · have : (0 : Int) < 10 ^ (k + 1) := Int.pow_pos (by omega)
      simp [worth]; omega
    · simp only [List.concat_eq_append, List.length_append, List.length_cons, List.length_nil] at h hd ⊢
      have h1 := ih m (by omega) (fun c hc => hd c (by simp [hc]))
      have h2 := hd c (by simp)
      simp only [isDig, Bool.and_eq_true, decide_eq_true_eq] at h2
      rw [worth_snoc, Int.pow_succ]; omega
structure Tok where
  text : Bytes
  at' : Nat
  num : Bool
/-- the tokens from place n on, and the place of a byte that begins none, or -1; with so many steps at most -/
def lexFuel (l : Bytes) : Nat → Nat → List Tok × Int
  | 0, _ => ([], -1)
  | f + 1, n =>
    if h : n < l.length then
      if isBlk l[n] then lexFuel l f (n + 1)
      else if tokEnd l n ≤ n then ([], (n : Int))
      else ({ text := (l.take (tokEnd l n)).drop n, at' := n, num := isDig l[n] } :: (lexFuel l f (tokEnd l n)).1, (lexFuel l f (tokEnd l n)).2)
    else ([], -1)
/-- the tokens from place n on, and the place of a byte that begins none, or -1 -/
def lexFrom (l : Bytes) (n : Nat) : List Tok × Int := lexFuel l (l.length + 1 - n) n
theorem lexFuel_out {l : Bytes} {n : Nat} (h : ¬ n < l.length) : ∀ f, lexFuel l f n = ([], -1)
  | 0 => rfl
  | _ + 1 => by rw [lexFuel, dif_neg h]
theorem lexFuel_same (l : Bytes) : ∀ (f g n : Nat), l.length < f + n → l.length < g + n → lexFuel l f n = lexFuel l g n
  | 0, g, n, h1, _ => by rw [lexFuel_out (by omega), lexFuel_out (by omega)]
  | f + 1, 0, n, _, h2 => by rw [lexFuel_out (by omega), lexFuel_out (by omega)]
  | f + 1, g + 1, n, h1, h2 => by
    rw [lexFuel, lexFuel]
    by_cases h : n < l.length
    · rw [dif_pos h, dif_pos h]
      by_cases hb : isBlk l[n] = true
      · rw [if_pos hb, if_pos hb]; exact lexFuel_same l f g (n + 1) (by omega) (by omega)
      · rw [if_neg hb, if_neg hb]
        by_cases he : tokEnd l n ≤ n
        · rw [if_pos he, if_pos he]
        · rw [if_neg he, if_neg he, lexFuel_same l f g (tokEnd l n) (by omega) (by omega)]
    · rw [dif_neg h, dif_neg h]
theorem lexFrom_end {l : Bytes} {n : Nat} (h : ¬ n < l.length) : lexFrom l n = ([], -1) := lexFuel_out h _
theorem lexFrom_blk {l : Bytes} {n : Nat} (h : n < l.length) (hb : isBlk l[n] = true) : lexFrom l n = lexFrom l (n + 1) := by
  unfold lexFrom
  rw [show l.length + 1 - n = (l.length - n) + 1 by omega, lexFuel, dif_pos h, if_pos hb]
  exact lexFuel_same l _ _ _ (by omega) (by omega)
theorem lexFrom_bad {l : Bytes} {n : Nat} (h : n < l.length) (hb : isBlk l[n] = false) (he : tokEnd l n ≤ n) : lexFrom l n = ([], (n : Int)) := by
  unfold lexFrom
  rw [show l.length + 1 - n = (l.length - n) + 1 by omega, lexFuel, dif_pos h, if_neg (by simp [hb]), if_pos he]
theorem lexFrom_tok {l : Bytes} {n : Nat} (h : n < l.length) (hb : isBlk l[n] = false) (he : n < tokEnd l n) :
    lexFrom l n = ({ text := (l.take (tokEnd l n)).drop n, at' := n, num := isDig l[n] } :: (lexFrom l (tokEnd l n)).1, (lexFrom l (tokEnd l n)).2) := by
  have e : lexFuel l (l.length - n) (tokEnd l n) = lexFrom l (tokEnd l n) := lexFuel_same l _ _ _ (by omega) (by omega)
  rw [← e]
  show lexFuel l (l.length + 1 - n) n = _
  rw [show l.length + 1 - n = (l.length - n) + 1 by omega, lexFuel, dif_pos h, if_neg (by simp [hb]), if_neg (by omega)]
theorem lexFrom_ind {l : Bytes} {motive : Nat → Prop} (case1 : ∀ n (h : n < l.length), isBlk l[n] = true → motive (n + 1) → motive n) (case2 : ∀ n (h : n < l.length), ¬ isBlk l[n] = true → tokEnd l n ≤ n → motive n)
    (case3 : ∀ n (h : n < l.length), ¬ isBlk l[n] = true → ¬ tokEnd l n ≤ n → motive (tokEnd l n) → motive n) (case4 : ∀ n, ¬ n < l.length → motive n) (n : Nat) : motive n := by
  have key : ∀ f n, l.length < f + n → motive n := by
    intro f
    induction f with
    | zero => intro n h; exact case4 n (by omega)
    | succ f ih =>
      intro n hn
      by_cases h : n < l.length
      · by_cases hb : isBlk l[n] = true
        · exact case1 n h hb (ih (n + 1) (by omega))
        · by_cases he : tokEnd l n ≤ n
          · exact case2 n h hb he
          · exact case3 n h hb he (ih _ (by omega))
      · exact case4 n h
  exact key (l.length + 1) n (by omega)
/-! the parser, as a machine on numbers -/
structure Edge where
  kind : Nat
  num : Int
structure Frame where
  kind : Nat
  num : Int
  frm : Edge
  to : Edge
structure Fn where
  kind : Nat
  col : Nat
  num : Int
  frame : Frame
structure PS where
  next : Nat
  failed : Bool
  by' : List Nat
  keys : List (Nat × Bool)
  funcs : List Fn
  hasTop : Bool
  top : Int
  frm : Int
  many : Int
  twice : Int
  arg : Int
def PS.fail (s : PS) : PS := { s with failed := true }
def PS.step (s : PS) : PS := { s with next := s.next + 1 }
/-- may the next token be taken as this text? -/
def takes (toks : List Tok) (t : Bytes) (s : PS) : Bool := !s.failed && (match toks[s.next]? with | some x => x.text == t | none => false)
def takeS (toks : List Tok) (t : Bytes) (s : PS) : PS := if takes toks t s then s.step else s
def wantS (toks : List Tok) (t : Bytes) (s : PS) : PS := if takes toks t s then s.step else s.fail
def placeS (toks : List Tok) (len : Nat) (s : PS) : Int := match toks[s.next]? with | some x => (x.at' : Int) | none => (len : Int)
def isNum (toks : List Tok) (s : PS) : Bool := !s.failed && (match toks[s.next]? with | some x => x.num | none => false)
def numS (toks : List Tok) (s : PS) : PS := if isNum toks s then s.step else s.fail
def numV (toks : List Tok) (s : PS) : Int := if isNum toks s then (match toks[s.next]? with | some x => worth x.text | none => 0) else 0
def colTxt : Nat → Bytes | 0 => [112] | 1 => [107] | _ => [118]
def kindTxt : Nat → Bytes
  | 0 => [110, 117, 109, 98, 101, 114] | 1 => [114, 97, 110, 107] | 2 => [100, 101, 110, 115, 101] | 3 => [116, 105, 108, 101]
  | 4 => [108, 97, 103] | 5 => [108, 101, 97, 100] | 6 => [99, 111, 117, 110, 116] | 7 => [115, 117, 109]
  | 8 => [109, 105, 110] | 9 => [109, 97, 120] | 10 => [102, 105, 114, 115, 116] | _ => [108, 97, 115, 116]
/-- the first of n texts that may be taken -/
def firstTake (toks : List Tok) (txt : Nat → Bytes) (n : Nat) (s : PS) : Option Nat := (List.range n).find? (fun j => takes toks (txt j) s)
theorem firstTake_some {toks : List Tok} {txt : Nat → Bytes} {n k : Nat} {s : PS} (hk : k < n) (h0 : ∀ j, j < k → takes toks (txt j) s = false) (h : takes toks (txt k) s = true) : firstTake toks txt n s = some k := by
  unfold firstTake
  rw [List.find?_eq_some_iff_append]
  refine ⟨h, List.range k, (List.range (n - k - 1)).map (· + (k + 1)), ?_, ?_⟩
  · have e : n = k + 1 + (n - k - 1) := by omega
    conv => lhs; rw [e, List.range_add, List.range_succ]
    simp [Nat.add_comm]
  · intro j hj; simpa using h0 j (by simpa using hj)
theorem firstTake_none {toks : List Tok} {txt : Nat → Bytes} {n : Nat} {s : PS} (h0 : ∀ j, j < n → takes toks (txt j) s = false) : firstTake toks txt n s = none := by
  unfold firstTake
  rw [List.find?_eq_none]
  intro j hj; simp [h0 j (by simpa using hj)]
def oneOfS (toks : List Tok) (txt : Nat → Bytes) (n : Nat) (s : PS) : PS := match firstTake toks txt n s with | some _ => s.step | none => s.fail
def oneOfV (toks : List Tok) (txt : Nat → Bytes) (n : Nat) (s : PS) : Nat := match firstTake toks txt n s with | some j => j | none => 0
def endS (toks : List Tok) (s : PS) : PS := if s.next < toks.length then s.fail else s
def twiceS (at' : Int) (s : PS) : PS := if s.twice = -1 then { s with twice := at' } else s
end Pq
end Go.Proofs.YtcoofnhdbejnpaaGreatDoor

/- Plain functions: the parser's greater steps. -/
namespace Go.Proofs.YtcoofnhdbejnpaaGreatDoor
namespace Pq
def tileS (toks : List Tok) (len : Nat) (s : PS) : PS := if numV toks s = 0 ∧ (numS toks s).arg = -1 then { numS toks s with arg := placeS toks len s } else numS toks s
def wStart : Bytes := [115, 116, 97, 114, 116]
def wEnd : Bytes := [101, 110, 100]
def wHere : Bytes := [104, 101, 114, 101]
def wBack : Bytes := [98, 97, 99, 107]
def wOn : Bytes := [111, 110]
def wAll : Bytes := [97, 108, 108]
def wPeers : Bytes := [112, 101, 101, 114, 115]
def wNear : Bytes := [110, 101, 97, 114]
def wTo : Bytes := [116, 111]
def edgeR (toks : List Tok) (s : PS) : Edge × PS :=
  if takes toks wStart s then (⟨0, 0⟩, s.step) else if takes toks wEnd s then (⟨1, 0⟩, s.step) else if takes toks wHere s then (⟨2, 0⟩, s.step)
  else if takes toks wBack (numS toks s) then (⟨3, numV toks s⟩, (numS toks s).step) else (⟨4, numV toks s⟩, wantS toks wOn (numS toks s))
def frameR (toks : List Tok) (s : PS) : Frame × PS :=
  if takes toks wAll s then (⟨0, 0, ⟨0, 0⟩, ⟨0, 0⟩⟩, s.step) else if takes toks wPeers s then (⟨1, 0, ⟨0, 0⟩, ⟨0, 0⟩⟩, s.step)
  else if takes toks wNear s then (⟨2, numV toks s.step, ⟨0, 0⟩, ⟨0, 0⟩⟩, numS toks s.step)
  else (⟨3, 0, (edgeR toks s).1, (edgeR toks (wantS toks wTo (edgeR toks s).2)).1⟩, (edgeR toks (wantS toks wTo (edgeR toks s).2)).2)
def wOpen : Bytes := [40]
def wClose : Bytes := [41]
def wComma : Bytes := [44]
def fr0 : Frame := ⟨0, 0, ⟨0, 0⟩, ⟨0, 0⟩⟩
def tileR (toks : List Tok) (len : Nat) (s : PS) : Fn × PS := (⟨3, 0, numV toks (wantS toks wOpen s), fr0⟩, wantS toks wClose (tileS toks len (wantS toks wOpen s)))
/-- behind the kind: ( COL , -/
def colComma (toks : List Tok) (s : PS) : PS := wantS toks wComma (oneOfS toks colTxt 3 (wantS toks wOpen s))
def lagR (toks : List Tok) (k : Nat) (s : PS) : Fn × PS := (⟨k, oneOfV toks colTxt 3 (wantS toks wOpen s), numV toks (colComma toks s), fr0⟩, wantS toks wClose (numS toks (colComma toks s)))
def overR (toks : List Tok) (k : Nat) (s : PS) : Fn × PS := (⟨k, oneOfV toks colTxt 3 (wantS toks wOpen s), 0, (frameR toks (colComma toks s)).1⟩, wantS toks wClose (frameR toks (colComma toks s)).2)
def funcR (toks : List Tok) (len : Nat) (s : PS) : Fn × PS :=
  if oneOfV toks kindTxt 12 s < 3 then (⟨oneOfV toks kindTxt 12 s, 0, 0, fr0⟩, oneOfS toks kindTxt 12 s)
  else if oneOfV toks kindTxt 12 s = 3 then tileR toks len (oneOfS toks kindTxt 12 s)
  else if oneOfV toks kindTxt 12 s < 6 then lagR toks (oneOfV toks kindTxt 12 s) (oneOfS toks kindTxt 12 s)
  else overR toks (oneOfV toks kindTxt 12 s) (oneOfS toks kindTxt 12 s)
theorem oneOfV_lt (toks : List Tok) (txt : Nat → Bytes) (n : Nat) (s : PS) (h : 0 < n) : oneOfV toks txt n s < n := by
  unfold oneOfV firstTake
  split
  · rename_i j hj
    have := List.mem_of_find?_eq_some hj
    simpa using this
  · exact h
end Pq
end Go.Proofs.YtcoofnhdbejnpaaGreatDoor

/- Plain functions: the parser's loops, and the whole. -/
namespace Go.Proofs.YtcoofnhdbejnpaaGreatDoor
namespace Pq
def wBy : Bytes := [98, 121]
def wOrder : Bytes := [111, 114, 100, 101, 114]
def wShow : Bytes := [115, 104, 111, 119]
def wTop : Bytes := [116, 111, 112]
def wFrom : Bytes := [102, 114, 111, 109]
def wDesc : Bytes := [100, 101, 115, 99]
def hasC (l : List Nat) (c : Nat) : Bool := l.contains c
def hasK (l : List (Nat × Bool)) (c : Nat) : Bool := l.any (fun k => k.1 == c)
theorem hasC_true {l : List Nat} {c k : Nat} (hk : k < l.length) (h : l[k] = c) : hasC l c = true := by
  unfold hasC; rw [List.contains_iff_mem, ← h]; exact List.getElem_mem hk
theorem hasC_false {l : List Nat} {c : Nat} (h : ∀ j (hj : j < l.length), l[j] ≠ c) : hasC l c = false := by
  unfold hasC; rw [Bool.eq_false_iff]; intro hm
  rw [List.contains_iff_mem] at hm
  obtain ⟨j, hj, e⟩ := List.getElem_of_mem hm
  exact h j hj e
theorem hasK_true {l : List (Nat × Bool)} {c k : Nat} (hk : k < l.length) (h : l[k].1 = c) : hasK l c = true := by
  unfold hasK; rw [List.any_eq_true]; exact ⟨l[k], List.getElem_mem hk, by simp [h]⟩
theorem hasK_false {l : List (Nat × Bool)} {c : Nat} (h : ∀ j (hj : j < l.length), l[j].1 ≠ c) : hasK l c = false := by
  unfold hasK; rw [Bool.eq_false_iff]; intro hm
  rw [List.any_eq_true] at hm
  obtain ⟨x, hx, e⟩ := hm
  obtain ⟨j, hj, e'⟩ := List.getElem_of_mem hx
  exact h j hj (by rw [e']; simpa using e)
theorem takes_lt {toks : List Tok} {t : Bytes} {s : PS} (h : takes toks t s = true) : s.next < toks.length := by
  unfold takes at h
  rcases Nat.lt_or_ge s.next toks.length with h' | h'
  · exact h'
  · rw [List.getElem?_eq_none h'] at h; simp at h
theorem oneOfS_next (toks : List Tok) (txt : Nat → Bytes) (n : Nat) (s : PS) : s.next ≤ (oneOfS toks txt n s).next := by
  unfold oneOfS; split <;> simp [PS.step, PS.fail]
theorem wantS_next (toks : List Tok) (t : Bytes) (s : PS) : s.next ≤ (wantS toks t s).next := by unfold wantS; split <;> simp [PS.step, PS.fail]
theorem takeS_next (toks : List Tok) (t : Bytes) (s : PS) : s.next ≤ (takeS toks t s).next := by unfold takeS; split <;> simp [PS.step]
theorem numS_next (toks : List Tok) (s : PS) : s.next ≤ (numS toks s).next := by unfold numS; split <;> simp [PS.step, PS.fail]
theorem tileS_next (toks : List Tok) (len : Nat) (s : PS) : s.next ≤ (tileS toks len s).next := by unfold tileS; split <;> exact numS_next toks s
theorem twiceS_next (n : Int) (s : PS) : (twiceS n s).next = s.next := by unfold twiceS; split <;> rfl
theorem edgeR_next (toks : List Tok) (s : PS) : s.next ≤ (edgeR toks s).2.next := by
  unfold edgeR
  have h1 := numS_next toks s; have h2 := wantS_next toks wOn (numS toks s)
  repeat' split
  all_goals first | (simp [PS.step]; done) | (simp [PS.step]; omega) | (simp only []; omega)
theorem frameR_next (toks : List Tok) (s : PS) : s.next ≤ (frameR toks s).2.next := by
  unfold frameR
  have h1 := numS_next toks s.step; have h2 := edgeR_next toks s; have h3 := wantS_next toks wTo (edgeR toks s).2; have h4 := edgeR_next toks (wantS toks wTo (edgeR toks s).2)
  have h5 : s.step.next = s.next + 1 := rfl
  repeat' split
  all_goals first | (simp [PS.step]; done) | (simp only []; omega)
theorem colComma_next (toks : List Tok) (s : PS) : s.next ≤ (colComma toks s).next := by
  unfold colComma
  have h1 := wantS_next toks wOpen s; have h2 := oneOfS_next toks colTxt 3 (wantS toks wOpen s); have h3 := wantS_next toks wComma (oneOfS toks colTxt 3 (wantS toks wOpen s))
  omega
theorem funcR_next (toks : List Tok) (len : Nat) (s : PS) : s.next ≤ (funcR toks len s).2.next := by
  have h0 := oneOfS_next toks kindTxt 12 s
  unfold funcR
  generalize oneOfS toks kindTxt 12 s = s1 at *
  have h1 := wantS_next toks wOpen s1; have h2 := tileS_next toks len (wantS toks wOpen s1); have h3 := wantS_next toks wClose (tileS toks len (wantS toks wOpen s1))
  have h4 := colComma_next toks s1; have h5 := numS_next toks (colComma toks s1); have h6 := wantS_next toks wClose (numS toks (colComma toks s1))
  have h7 := frameR_next toks (colComma toks s1); have h8 := wantS_next toks wClose (frameR toks (colComma toks s1)).2
  repeat' split
  all_goals (simp only [tileR, lagR, overR]; omega)
/-! which fields a step leaves alone -/
structure Same (s s' : PS) : Prop where
  by' : s'.by' = s.by'
  keys : s'.keys = s.keys
  funcs : s'.funcs = s.funcs
theorem Same.trans {a b c : PS} (h : Same a b) (k : Same b c) : Same a c := ⟨k.by'.trans h.by', k.keys.trans h.keys, k.funcs.trans h.funcs⟩
theorem same_oneOf (toks : List Tok) (txt : Nat → Bytes) (n : Nat) (s : PS) : Same s (oneOfS toks txt n s) := by unfold oneOfS; split <;> exact ⟨rfl, rfl, rfl⟩
theorem same_want (toks : List Tok) (t : Bytes) (s : PS) : Same s (wantS toks t s) := by unfold wantS; split <;> exact ⟨rfl, rfl, rfl⟩
theorem same_take (toks : List Tok) (t : Bytes) (s : PS) : Same s (takeS toks t s) := by unfold takeS; split <;> exact ⟨rfl, rfl, rfl⟩
theorem same_num (toks : List Tok) (s : PS) : Same s (numS toks s) := by unfold numS; split <;> exact ⟨rfl, rfl, rfl⟩
theorem same_tile (toks : List Tok) (len : Nat) (s : PS) : Same s (tileS toks len s) := by
  have h := same_num toks s
  unfold tileS; split
  · exact ⟨h.by', h.keys, h.funcs⟩
  · exact h
theorem same_twice (n : Int) (s : PS) : Same s (twiceS n s) := by unfold twiceS; split <;> exact ⟨rfl, rfl, rfl⟩
theorem same_step (s : PS) : Same s s.step := ⟨rfl, rfl, rfl⟩
theorem same_end (toks : List Tok) (s : PS) : Same s (endS toks s) := by unfold endS; split <;> exact ⟨rfl, rfl, rfl⟩
theorem same_edge (toks : List Tok) (s : PS) : Same s (edgeR toks s).2 := by
  unfold edgeR
  repeat' split
  all_goals first | exact same_step s | exact (same_num toks s).trans (same_step _) | exact (same_num toks s).trans (same_want _ _ _)
theorem same_frame (toks : List Tok) (s : PS) : Same s (frameR toks s).2 := by
  unfold frameR
  repeat' split
  all_goals first | exact same_step s | exact (same_step s).trans (same_num _ _) | exact ((same_edge toks s).trans (same_want _ _ _)).trans (same_edge _ _)
theorem same_colComma (toks : List Tok) (s : PS) : Same s (colComma toks s) := ((same_want _ _ _).trans (same_oneOf _ _ _ _)).trans (same_want _ _ _)
theorem same_func (toks : List Tok) (len : Nat) (s : PS) : Same s (funcR toks len s).2 := by
  have h0 := same_oneOf toks kindTxt 12 s
  unfold funcR
  generalize oneOfS toks kindTxt 12 s = s1 at *
  repeat' split
  · exact h0
  · exact h0.trans (((same_want _ _ _).trans (same_tile _ _ _)).trans (same_want _ _ _))
  · exact h0.trans (((same_colComma _ _).trans (same_num _ _)).trans (same_want _ _ _))
  · exact h0.trans (((same_colComma _ _).trans (same_frame _ _)).trans (same_want _ _ _))
/-! the loops -/
def colAt (toks : List Tok) (s : PS) : Nat := oneOfV toks colTxt 3 s
def byMark (toks : List Tok) (len : Nat) (s : PS) : PS := if hasC s.by' (colAt toks s) then twiceS (placeS toks len s) (oneOfS toks colTxt 3 s) else oneOfS toks colTxt 3 s
def byStep (toks : List Tok) (len : Nat) (s : PS) : PS := { byMark toks len s with by' := s.by' ++ [colAt toks s] }
def keySt (toks : List Tok) (s : PS) : PS := takeS toks wDesc (oneOfS toks colTxt 3 s)
def keyDesc (toks : List Tok) (s : PS) : Bool := takes toks wDesc (oneOfS toks colTxt 3 s)
def keyMark (toks : List Tok) (len : Nat) (s : PS) : PS := if hasK s.keys (colAt toks s) then twiceS (placeS toks len s) (keySt toks s) else keySt toks s
def keyStep (toks : List Tok) (len : Nat) (s : PS) : PS := { keyMark toks len s with keys := s.keys ++ [(colAt toks s, keyDesc toks s)] }
def funMark (toks : List Tok) (len : Nat) (s : PS) : PS := if s.funcs.length = 4 then { s with many := placeS toks len s } else s
def funStep (toks : List Tok) (len : Nat) (s : PS) : PS := { (funcR toks len (funMark toks len s)).2 with funcs := s.funcs ++ [(funcR toks len (funMark toks len s)).1] }
theorem byStep_next (toks : List Tok) (len : Nat) (s : PS) : s.next ≤ (byStep toks len s).next := by
  have h := oneOfS_next toks colTxt 3 s
  simp only [byStep, byMark]; split
  · rw [twiceS_next]; exact h
  · exact h
theorem keyStep_next (toks : List Tok) (len : Nat) (s : PS) : s.next ≤ (keyStep toks len s).next := by
  have h := oneOfS_next toks colTxt 3 s; have h2 := takeS_next toks wDesc (oneOfS toks colTxt 3 s)
  simp only [keyStep, keyMark, keySt]; split
  · rw [twiceS_next]; omega
  · omega
theorem funStep_next (toks : List Tok) (len : Nat) (s : PS) : s.next ≤ (funStep toks len s).next := by
  have h := funcR_next toks len (funMark toks len s)
  have h2 : (funMark toks len s).next = s.next := by unfold funMark; split <;> rfl
  simp only [funStep]; omega
/-- a step, and again behind a sign that is taken: so many times at most -/
def iterF (c : PS → Bool) (st : PS → PS) : Nat → PS → PS
  | 0, s => st s
  | f + 1, s => if c (st s) = true then iterF c st f (st s).step else st s
def iterR (n : Nat) (c : PS → Bool) (st : PS → PS) (s : PS) : PS := iterF c st (n - s.next) s
theorem iterF_same {n : Nat} {c : PS → Bool} {st : PS → PS} (h1 : ∀ s, c (st s) = true → (st s).next < n) (h2 : ∀ s, s.next ≤ (st s).next) : ∀ (f g : Nat) (s : PS), n ≤ f + s.next → n ≤ g + s.next → iterF c st f s = iterF c st g s
  | 0, 0, _, _, _ => rfl
  | 0, g + 1, s, hf, _ => by
    have hn : ¬ c (st s) = true := fun h => by have := h1 s h; have := h2 s; omega
    rw [iterF, iterF, if_neg hn]
  | f + 1, 0, s, _, hg => by
    have hn : ¬ c (st s) = true := fun h => by have := h1 s h; have := h2 s; omega
    rw [iterF, iterF, if_neg hn]
  | f + 1, g + 1, s, hf, hg => by
    rw [iterF, iterF]
    by_cases h : c (st s) = true
    · have h3 := h2 s
      rw [if_pos h, if_pos h]
      exact iterF_same h1 h2 f g _ (by simp only [PS.step]; omega) (by simp only [PS.step]; omega)
    · rw [if_neg h, if_neg h]
theorem iterR_eq {n : Nat} {c : PS → Bool} {st : PS → PS} (h1 : ∀ s, c (st s) = true → (st s).next < n) (h2 : ∀ s, s.next ≤ (st s).next) (s : PS) : iterR n c st s = if _h : c (st s) = true then iterR n c st (st s).step else st s := by
  by_cases h : c (st s) = true
  · have h3 := h1 s h
    have h4 := h2 s
    rw [dif_pos h]
    show iterF c st (n - s.next) s = _
    rw [show n - s.next = (n - s.next - 1) + 1 by omega, iterF, if_pos h]
    exact iterF_same h1 h2 _ _ _ (by simp only [PS.step]; omega) (by simp only [PS.step]; omega)
  · rw [dif_neg h]
    show iterF c st (n - s.next) s = _
    cases n - s.next with
    | zero => rfl
    | succ f => rw [iterF, if_neg h]
theorem iterR_ind {n : Nat} {c : PS → Bool} {st : PS → PS} {motive : PS → Prop} (h1 : ∀ s, c (st s) = true → (st s).next < n) (h2 : ∀ s, s.next ≤ (st s).next) (case1 : ∀ s, c (st s) = true → motive (st s).step → motive s) (case2 : ∀ s, ¬ c (st s) = true → motive s) (s : PS) : motive s := by
  have key : ∀ f (s : PS), n ≤ f + s.next → motive s := by
    intro f
    induction f with
    | zero => intro s h; exact case2 s (fun q => by have := h1 s q; have := h2 s; omega)
    | succ f ih =>
      intro s h
      by_cases q : c (st s) = true
      · have h3 := h2 s
        exact case1 s q (ih _ (by simp only [PS.step]; omega))
      · exact case2 s q
  exact key n s (by omega)
def byR (toks : List Tok) (len : Nat) (s : PS) : PS := iterR toks.length (takes toks wComma) (byStep toks len) s
theorem byR_eq (toks : List Tok) (len : Nat) (s : PS) : byR toks len s = if _h : takes toks wComma (byStep toks len s) = true then byR toks len (byStep toks len s).step else byStep toks len s :=
  iterR_eq (fun _ h => takes_lt h) (byStep_next toks len) s
theorem byR_ind {toks : List Tok} {len : Nat} {motive : PS → Prop} (case1 : ∀ s, takes toks wComma (byStep toks len s) = true → motive (byStep toks len s).step → motive s) (case2 : ∀ s, ¬ takes toks wComma (byStep toks len s) = true → motive s) (s : PS) : motive s :=
  iterR_ind (fun _ h => takes_lt h) (byStep_next toks len) case1 case2 s
def keyR (toks : List Tok) (len : Nat) (s : PS) : PS := iterR toks.length (takes toks wComma) (keyStep toks len) s
theorem keyR_eq (toks : List Tok) (len : Nat) (s : PS) : keyR toks len s = if _h : takes toks wComma (keyStep toks len s) = true then keyR toks len (keyStep toks len s).step else keyStep toks len s :=
  iterR_eq (fun _ h => takes_lt h) (keyStep_next toks len) s
theorem keyR_ind {toks : List Tok} {len : Nat} {motive : PS → Prop} (case1 : ∀ s, takes toks wComma (keyStep toks len s) = true → motive (keyStep toks len s).step → motive s) (case2 : ∀ s, ¬ takes toks wComma (keyStep toks len s) = true → motive s) (s : PS) : motive s :=
  iterR_ind (fun _ h => takes_lt h) (keyStep_next toks len) case1 case2 s
def funR (toks : List Tok) (len : Nat) (s : PS) : PS := iterR toks.length (takes toks wComma) (funStep toks len) s
theorem funR_eq (toks : List Tok) (len : Nat) (s : PS) : funR toks len s = if _h : takes toks wComma (funStep toks len s) = true then funR toks len (funStep toks len s).step else funStep toks len s :=
  iterR_eq (fun _ h => takes_lt h) (funStep_next toks len) s
def top1 (toks : List Tok) (s : PS) : PS := { numS toks { s with hasTop := true } with top := numV toks { s with hasTop := true } }
def topS (toks : List Tok) (s : PS) : PS := if takes toks wFrom (top1 toks s) then { numS toks (top1 toks s).step with frm := numV toks (top1 toks s).step } else top1 toks s
def q1 (toks : List Tok) (len : Nat) (s : PS) : PS := if takes toks wBy s then byR toks len s.step else s
def q2 (toks : List Tok) (len : Nat) (s : PS) : PS := keyR toks len (wantS toks wOrder (q1 toks len s))
def q3 (toks : List Tok) (len : Nat) (s : PS) : PS := funR toks len (wantS toks wShow (q2 toks len s))
def q4 (toks : List Tok) (len : Nat) (s : PS) : PS := if takes toks wTop (q3 toks len s) then topS toks (q3 toks len s).step else q3 toks len s
def queryS (toks : List Tok) (len : Nat) (s : PS) : PS := endS toks (q4 toks len s)
end Pq
end Go.Proofs.YtcoofnhdbejnpaaGreatDoor

