/- Plain mathematics: the tokens of a text that is written token by token. -/
import Derived.Test.YtcoofnhdbejnpaaDoorPlainA
namespace Go.Proofs.YtcoofnhdbejnpaaDoor
namespace Pq
/-- what a token may be -/
def Tk (t : Bytes) : Prop := ∀ M : Bytes → Prop, (∀ (c : UInt8), isSgn c = true → M [c]) → (∀ (t : Bytes), t ≠ [] → t.length ≤ 2 → (∀ c ∈ t, isDig c = true) → M t) → (∀ (t : Bytes), t ≠ [] → t.length ≤ 8 → (∀ c ∈ t, isLet c = true) → M t) → M t
theorem Tk.sign (c : UInt8) (h : isSgn c = true) : Tk [c] := fun _ r0 _ _ => r0 c h
theorem Tk.digits (t : Bytes) (h0 : t ≠ []) (h2 : t.length ≤ 2) (h : ∀ c ∈ t, isDig c = true) : Tk t := fun _ _ r1 _ => r1 t h0 h2 h
theorem Tk.word (t : Bytes) (h0 : t ≠ []) (h8 : t.length ≤ 8) (h : ∀ c ∈ t, isLet c = true) : Tk t := fun _ _ _ r2 => r2 t h0 h8 h
theorem Tk_ind {motive : (t : Bytes) → Tk t → Prop} (sign : ∀ (c : UInt8) (h : isSgn c = true), motive [c] (Tk.sign c h)) (digits : ∀ (t : Bytes) (h0 : t ≠ []) (h2 : t.length ≤ 2) (h : ∀ c ∈ t, isDig c = true), motive t (Tk.digits t h0 h2 h)) (word : ∀ (t : Bytes) (h0 : t ≠ []) (h8 : t.length ≤ 8) (h : ∀ c ∈ t, isLet c = true), motive t (Tk.word t h0 h8 h)) (t : Bytes) (h : Tk t) : motive t h := by
  obtain ⟨_, q⟩ := h (fun t => ∃ h : Tk t, motive t h) (fun c h => ⟨_, sign c h⟩) (fun t h0 h2 h => ⟨_, digits t h0 h2 h⟩) (fun t h0 h8 h => ⟨_, word t h0 h8 h⟩)
  exact q
/-- a byte that ends every row -/
def isOther (c : UInt8) : Prop := isDig c = false ∧ isLet c = false
/-- what stands behind the token t does not go on with it -/
def Ends (t rest : Bytes) : Prop := (∃ c, t = [c] ∧ isSgn c = true) ∨ ∀ c r, rest = c :: r → isOther c
theorem drop_at (p : Bytes) (x : Bytes) : (p ++ x).drop p.length = x := by simp
theorem get_at (p : Bytes) (c : UInt8) (x : Bytes) (h : p.length < (p ++ c :: x).length) : (p ++ c :: x)[p.length]'h = c := by
  rw [List.getElem_append_right (Nat.le_refl _)]; simp
theorem sgn_blk {c : UInt8} (h : isSgn c = true) : isBlk c = false := by
  simp only [isSgn, isBlk, Bool.or_eq_true, beq_iff_eq, Bool.or_eq_false_iff, beq_eq_false_iff_ne] at *; omega
theorem dig_blk {c : UInt8} (h : isDig c = true) : isBlk c = false := by
  simp only [isDig, isBlk, Bool.and_eq_true, decide_eq_true_eq, Bool.or_eq_false_iff, beq_eq_false_iff_ne] at *; omega
theorem let_blk {c : UInt8} (h : isLet c = true) : isBlk c = false := by
  simp only [isLet, isBlk, Bool.and_eq_true, decide_eq_true_eq, Bool.or_eq_false_iff, beq_eq_false_iff_ne] at *; omega
theorem let_sgn {c : UInt8} (h : isLet c = true) : isSgn c = false := by
  simp only [isLet, isSgn, Bool.and_eq_true, decide_eq_true_eq, Bool.or_eq_false_iff, beq_eq_false_iff_ne] at *; omega
theorem let_dig {c : UInt8} (h : isLet c = true) : isDig c = false := by
  simp only [isLet, isDig, Bool.and_eq_true, decide_eq_true_eq, Bool.and_eq_false_iff, decide_eq_false_iff_not] at *; omega
theorem sgn_dig {c : UInt8} (h : isSgn c = true) : isDig c = false := by
  simp only [isSgn, isDig, Bool.or_eq_true, beq_iff_eq, Bool.and_eq_false_iff, decide_eq_false_iff_not] at *; omega
theorem blk_other {c : UInt8} (h : isBlk c = true) : isOther c := by
  simp only [isOther, isBlk, isDig, isLet, Bool.or_eq_true, beq_iff_eq, Bool.and_eq_false_iff, decide_eq_false_iff_not] at *; omega
theorem sgn_other {c : UInt8} (h : isSgn c = true) : isOther c := by
  simp only [isOther, isSgn, isDig, isLet, Bool.or_eq_true, beq_iff_eq, Bool.and_eq_false_iff, decide_eq_false_iff_not] at *; omega
theorem takeWhile_row {q : UInt8 → Bool} : ∀ (t rest : Bytes), (∀ c ∈ t, q c = true) → (∀ c r, rest = c :: r → q c = false) → (t ++ rest).takeWhile q = t
  | [], [], _, _ => rfl
  | [], c :: r, _, h => by simp [h c r rfl]
  | a :: t, rest, h1, h2 => by
    have ih := takeWhile_row t rest (fun c hc => h1 c (by simp [hc])) h2
    simp [h1 a (by simp), ih]
theorem rowEnd_row {q : UInt8 → Bool} (p t rest : Bytes) (h1 : ∀ c ∈ t, q c = true) (h2 : ∀ c r, rest = c :: r → q c = false) : rowEnd q (p ++ (t ++ rest)) p.length = p.length + t.length := by
  unfold rowEnd; rw [drop_at, takeWhile_row t rest h1 h2]
theorem tokEnd_tk {p t rest : Bytes} (ht : Tk t) (he : Ends t rest) : tokEnd (p ++ (t ++ rest)) p.length = p.length + t.length := by
  induction t, ht using Tk_ind with
  | sign c h =>
    have hl : p.length < (p ++ ([c] ++ rest)).length := by simp
    unfold tokEnd
    rw [dif_pos hl]
    have e : (p ++ ([c] ++ rest))[p.length]'hl = c := get_at p c rest hl
    rw [e, if_pos h]; rfl
  | digits t h0 h2 h =>
    obtain ⟨a, t', rfl⟩ := List.exists_cons_of_ne_nil h0
    have ha := h a (by simp)
    have hl : p.length < (p ++ (a :: t' ++ rest)).length := by simp
    have e : (p ++ (a :: t' ++ rest))[p.length]'hl = a := get_at p a (t' ++ rest) hl
    have hr : ∀ c r, rest = c :: r → isDig c = false := by
      rcases he with ⟨c, hc, hs⟩ | he
      · have : a = c := by simpa using congrArg (fun l => l.head?) hc
        subst this; rw [sgn_dig hs] at ha; cases ha
      · exact fun c r hr => (he c r hr).1
    have hre := rowEnd_row (q := isDig) p (a :: t') rest h hr
    unfold tokEnd
    rw [dif_pos hl, e, isSgn_not_dig ha, hre]
    simp only [Bool.false_eq_true, if_false, ha, if_true]
    rw [if_neg (by omega)]
  | word t h0 h8 h =>
    obtain ⟨a, t', rfl⟩ := List.exists_cons_of_ne_nil h0
    have ha := h a (by simp)
    have hl : p.length < (p ++ (a :: t' ++ rest)).length := by simp
    have e : (p ++ (a :: t' ++ rest))[p.length]'hl = a := get_at p a (t' ++ rest) hl
    have hr : ∀ c r, rest = c :: r → isLet c = false := by
      rcases he with ⟨c, hc, hs⟩ | he
      · have : a = c := by simpa using congrArg (fun l => l.head?) hc
        subst this; rw [let_sgn ha] at hs; cases hs
      · exact fun c r hr => (he c r hr).2
    have hre := rowEnd_row (q := isLet) p (a :: t') rest h hr
    unfold tokEnd
    rw [dif_pos hl, e, let_sgn ha, hre]
    simp only [Bool.false_eq_true, if_false, ha, if_true, let_dig ha]
    rw [if_neg (by omega)]
theorem tk_blk {t : Bytes} (ht : Tk t) : ∃ a t', t = a :: t' ∧ isBlk a = false := by
  induction t, ht using Tk_ind with
  | sign c h => exact ⟨c, [], rfl, sgn_blk h⟩
  | digits t h0 h2 h => obtain ⟨a, t', rfl⟩ := List.exists_cons_of_ne_nil h0; exact ⟨a, t', rfl, dig_blk (h a (by simp))⟩
  | word t h0 h8 h => obtain ⟨a, t', rfl⟩ := List.exists_cons_of_ne_nil h0; exact ⟨a, t', rfl, let_blk (h a (by simp))⟩
/-- a text as it is written: blanks, a token, and so on -/
def flat : List (Bytes × Bytes) → Bytes
  | [] => []
  | (s, t) :: r => s ++ (t ++ flat r)
/-- blanks are blanks, tokens are tokens, and none runs on into the next -/
def Wrote : List (Bytes × Bytes) → Prop
  | [] => True
  | (s, t) :: r => (∀ c ∈ s, isBlk c = true) ∧ Tk t ∧ Ends t (flat r) ∧ Wrote r
def headDig (t : Bytes) : Bool := match t with | c :: _ => isDig c | [] => false
theorem lex_blanks : ∀ (s p x : Bytes), (∀ c ∈ s, isBlk c = true) → lexFrom (p ++ (s ++ x)) p.length = lexFrom (p ++ (s ++ x)) (p ++ s).length
  | [], p, x, _ => by simp
  | a :: s, p, x, h => by
    have hl : p.length < (p ++ (a :: s ++ x)).length := by simp
    have e : (p ++ (a :: s ++ x))[p.length]'hl = a := get_at p a (s ++ x) hl
    rw [lexFrom_blk hl (by rw [e]; exact h a (by simp))]
    have ih := lex_blanks s (p ++ [a]) x (fun c hc => h c (by simp [hc]))
    have e2 : p ++ (a :: s ++ x) = p ++ [a] ++ (s ++ x) := by simp
    have e3 : p.length + 1 = (p ++ [a]).length := by simp
    have e4 : p ++ a :: s = p ++ [a] ++ s := by simp
    rw [e2, e3, e4]; exact ih
theorem lex_flat : ∀ (I : List (Bytes × Bytes)) (p : Bytes), Wrote I →
    (lexFrom (p ++ flat I) p.length).2 = -1 ∧ (lexFrom (p ++ flat I) p.length).1.map (fun t => (t.text, t.num)) = I.map (fun i => (i.2, headDig i.2))
  | [], p, _ => by
    rw [lexFrom_end (by simp [flat])]; simp
  | (s, t) :: r, p, h => by
    obtain ⟨hs, ht, he, hr⟩ := h
    obtain ⟨a, t', hta, hab⟩ := tk_blk ht
    simp only [flat]
    rw [lex_blanks s p _ hs]
    have hl : (p ++ s).length < (p ++ s ++ (t ++ flat r)).length := by simp [hta]
    have e0 : p ++ (s ++ (t ++ flat r)) = p ++ s ++ (t ++ flat r) := by simp
    have e : (p ++ s ++ (t ++ flat r))[(p ++ s).length]'hl = a := by
      have := get_at (p ++ s) a (t' ++ flat r) (by simp)
      simp only [hta]
      exact this
    have htk := tokEnd_tk (p := p ++ s) ht he
    have htl : 0 < t.length := by simp [hta]
    rw [e0]
    rw [lexFrom_tok hl (by rw [e]; exact hab) (by rw [htk]; omega)]
    have ih := lex_flat r (p ++ s ++ t) hr
    have e1 : p ++ s ++ (t ++ flat r) = p ++ s ++ t ++ flat r := by simp
    have e2 : (p ++ s).length + t.length = (p ++ s ++ t).length := (List.length_append (as := p ++ s) (bs := t)).symm
    rw [htk]
    rw [e2]
    have e3 : ((p ++ s ++ (t ++ flat r)).take (p ++ s ++ t).length).drop (p ++ s).length = t := by
      rw [e1, List.take_left' rfl]; exact drop_at (p ++ s) t
    refine ⟨?_, ?_⟩
    · simp only [e1]; exact ih.1
    · simp only [List.map_cons, e3, e]
      rw [e1, ih.2, hta]; rfl
end Pq
end Go.Proofs.YtcoofnhdbejnpaaDoor
