/- Plain functions: what the loops leave alone; the fault that is told; the whole reading. -/
import Derived.Test.YtcoofnhdbejnpaaGreatDoorG01
import Derived.Test.YtcoofnhdbejnpaaGreatDoorG00
namespace Go.Proofs.YtcoofnhdbejnpaaGreatDoor
namespace Pq
theorem byStep_same (toks : List Tok) (len : Nat) (s : PS) : (byStep toks len s).keys = s.keys ∧ (byStep toks len s).funcs = s.funcs := by
  have h := same_oneOf toks colTxt 3 s
  have h2 := h.trans (same_twice (placeS toks len s) _)
  simp only [byStep, byMark]; split
  · exact ⟨h2.keys, h2.funcs⟩
  · exact ⟨h.keys, h.funcs⟩
theorem byR_same (toks : List Tok) (len : Nat) (s : PS) : (byR toks len s).keys = s.keys ∧ (byR toks len s).funcs = s.funcs := by
  induction s using byR_ind (toks := toks) (len := len) with
  | case1 s h ih => rw [byR_eq, dif_pos h]; have := byStep_same toks len s; exact ⟨ih.1.trans this.1, ih.2.trans this.2⟩
  | case2 s h => rw [byR_eq, dif_neg h]; exact byStep_same toks len s
theorem keyStep_same (toks : List Tok) (len : Nat) (s : PS) : (keyStep toks len s).by' = s.by' ∧ (keyStep toks len s).funcs = s.funcs := by
  have h := (same_oneOf toks colTxt 3 s).trans (same_take toks wDesc _)
  have h2 := h.trans (same_twice (placeS toks len s) _)
  simp only [keyStep, keyMark, keySt]; split
  · exact ⟨h2.by', h2.funcs⟩
  · exact ⟨h.by', h.funcs⟩
theorem keyR_same (toks : List Tok) (len : Nat) (s : PS) : (keyR toks len s).by' = s.by' ∧ (keyR toks len s).funcs = s.funcs := by
  induction s using keyR_ind (toks := toks) (len := len) with
  | case1 s h ih => rw [keyR_eq, dif_pos h]; have := keyStep_same toks len s; exact ⟨ih.1.trans this.1, ih.2.trans this.2⟩
  | case2 s h => rw [keyR_eq, dif_neg h]; exact keyStep_same toks len s
theorem q1_same (toks : List Tok) (len : Nat) (s : PS) : (q1 toks len s).keys = s.keys ∧ (q1 toks len s).funcs = s.funcs := by
  unfold q1; split
  · exact byR_same toks len s.step
  · exact ⟨rfl, rfl⟩
theorem q2_same (toks : List Tok) (len : Nat) (s : PS) : (q2 toks len s).funcs = s.funcs := by
  unfold q2; rw [(keyR_same _ _ _).2, (same_want _ _ _).funcs]; exact (q1_same toks len s).2
/-- the error that is named first, and its place -/
def faultE (s : PS) : Int := if s.failed then 3 else if s.many ≠ -1 then 4 else if s.twice ≠ -1 then 5 else if s.arg ≠ -1 then 6 else 0
def faultP (toks : List Tok) (len : Nat) (s : PS) : Int := if s.failed then placeS toks len s else if s.many ≠ -1 then s.many else if s.twice ≠ -1 then s.twice else if s.arg ≠ -1 then s.arg else 0
def ps0 : PS := ⟨0, false, [], [], [], false, 0, 0, -1, -1, -1⟩
theorem top1_next (toks : List Tok) (s : PS) : s.next ≤ (top1 toks s).next := numS_next toks { s with hasTop := true }
theorem topS_next (toks : List Tok) (s : PS) : s.next ≤ (topS toks s).next := by
  have h1 := top1_next toks s; have h2 := numS_next toks (top1 toks s).step
  unfold topS; split
  · have h3 : (top1 toks s).step.next = (top1 toks s).next + 1 := rfl
    simp only []; omega
  · exact h1
theorem same_top1 (toks : List Tok) (s : PS) : Same s (top1 toks s) := by
  have h := same_num toks { s with hasTop := true }
  exact ⟨h.by', h.keys, h.funcs⟩
theorem same_top (toks : List Tok) (s : PS) : Same s (topS toks s) := by
  unfold topS; split
  · have h := ((same_top1 toks s).trans (same_step _)).trans (same_num toks (top1 toks s).step)
    exact ⟨h.by', h.keys, h.funcs⟩
  · exact same_top1 toks s
theorem endS_next (toks : List Tok) (s : PS) : (endS toks s).next = s.next := by unfold endS; split <;> rfl
end Pq
end Go.Proofs.YtcoofnhdbejnpaaGreatDoor

/- Plain functions: reading a text; what its tokens are. -/
namespace Go.Proofs.YtcoofnhdbejnpaaGreatDoor
namespace Pq
def toksOf (l : Bytes) : List Tok := (lexFrom l 0).1
def endPS (l : Bytes) : PS := queryS (toksOf l) l.length ps0
def readE (l : Bytes) : Int := if 300 < l.length then 1 else if (lexFrom l 0).2 = -1 then faultE (endPS l) else 2
def readP (l : Bytes) : Int := if 300 < l.length then 0 else if (lexFrom l 0).2 = -1 then faultP (toksOf l) l.length (endPS l) else (lexFrom l 0).2
theorem isSgn_not_dig {c : UInt8} (h : isDig c = true) : isSgn c = false := by
  simp only [isDig, Bool.and_eq_true, decide_eq_true_eq] at h
  simp only [isSgn, Bool.or_eq_false_iff, beq_eq_false_iff_ne]
  omega
def GoodTok (t : Tok) : Prop := t.num = true → t.text.length ≤ 2 ∧ ∀ c ∈ t.text, isDig c = true
theorem text_rowEnd (p : UInt8 → Bool) (l : Bytes) (n : Nat) : (l.take (rowEnd p l n)).drop n = (l.drop n).takeWhile p := by
  rw [List.drop_take]
  have e : rowEnd p l n - n = ((l.drop n).takeWhile p).length := by unfold rowEnd; omega
  rw [e]
  exact (List.prefix_iff_eq_take.1 (List.takeWhile_prefix p)).symm
theorem lexFrom_good (l : Bytes) (n : Nat) : ∀ t ∈ (lexFrom l n).1, GoodTok t := by
  induction n using lexFrom_ind (l := l) with
  | case1 n h hb ih => rw [lexFrom_blk h hb]; exact ih
  | case2 n h hb he => rw [lexFrom_bad h (by simpa using hb) he]; intro t ht; cases ht
  | case3 n h hb he ih =>
    rw [lexFrom_tok h (by simpa using hb) (by omega)]
    intro t ht
    rcases List.mem_cons.1 ht with rfl | ht
    · intro hd
      simp only at hd ⊢
      have hs := isSgn_not_dig hd
      have e : tokEnd l n = if rowEnd isDig l n - n > 2 then n else rowEnd isDig l n := by unfold tokEnd; rw [dif_pos h]; simp [hs, hd]
      by_cases h2 : rowEnd isDig l n - n > 2
      · rw [e, if_pos h2] at he; omega
      · rw [e, if_neg h2]
        rw [text_rowEnd]
        refine ⟨?_, fun c hc => ?_⟩
        · have : rowEnd isDig l n - n = ((l.drop n).takeWhile isDig).length := by unfold rowEnd; omega
          omega
        · exact List.all_eq_true.1 List.all_takeWhile c hc
    · exact ih t ht
  | case4 n h => rw [lexFrom_end h]; intro t ht; cases ht
theorem lexFrom_len (l : Bytes) (n : Nat) : (lexFrom l n).1.length ≤ l.length - n := by
  induction n using lexFrom_ind (l := l) with
  | case1 n h hb ih => rw [lexFrom_blk h hb]; omega
  | case2 n h hb he => rw [lexFrom_bad h (by simpa using hb) he]; simp
  | case3 n h hb he ih =>
    rw [lexFrom_tok h (by simpa using hb) (by omega)]
    simp only [List.length_cons]; omega
  | case4 n h => rw [lexFrom_end h]; simp
theorem readE_long {l : Bytes} (h : 300 < l.length) : readE l = 1 ∧ readP l = 0 := by simp [readE, readP, h]
theorem readE_bad {l : Bytes} (h : ¬ 300 < l.length) (hl : ¬ (lexFrom l 0).2 = -1) : readE l = 2 ∧ readP l = (lexFrom l 0).2 := by simp [readE, readP, h, hl]
theorem readE_ok {l : Bytes} (h : ¬ 300 < l.length) (hl : (lexFrom l 0).2 = -1) : readE l = faultE (endPS l) ∧ readP l = faultP (toksOf l) l.length (endPS l) := by simp [readE, readP, h, hl]
end Pq
end Go.Proofs.YtcoofnhdbejnpaaGreatDoor

/- Plain functions: the texts that a query is told by. -/
namespace Go.Proofs.YtcoofnhdbejnpaaGreatDoor
namespace Pq
def numTxt (n : Int) : Bytes := if n < 10 then [UInt8.ofNat (48 + n.toNat)] else [UInt8.ofNat (48 + n.toNat / 10), UInt8.ofNat (48 + n.toNat % 10)]
def edgeTxt (e : Edge) : Bytes := if e.kind = 0 then wStart else if e.kind = 1 then wEnd else if e.kind = 2 then wHere else if e.kind = 3 then numTxt e.num ++ 32 :: wBack else numTxt e.num ++ 32 :: wOn
def frameTxt (f : Frame) : Bytes := if f.kind = 0 then wAll else if f.kind = 1 then wPeers else if f.kind = 2 then wNear ++ 32 :: numTxt f.num else edgeTxt f.frm ++ (32 :: wTo ++ [32]) ++ edgeTxt f.to
def fnTxt (f : Fn) : Bytes :=
  if f.kind < 3 then kindTxt f.kind
  else if f.kind = 3 then kindTxt f.kind ++ (wOpen ++ numTxt f.num) ++ wClose
  else if f.kind < 6 then kindTxt f.kind ++ (wOpen ++ colTxt f.col) ++ (wComma ++ 32 :: numTxt f.num) ++ wClose
  else kindTxt f.kind ++ (wOpen ++ colTxt f.col) ++ (wComma ++ 32 :: frameTxt f.frame) ++ wClose
/-- with ', ' between each two -/
def joinTxt : List Bytes → Bytes
  | [] => []
  | [x] => x
  | x :: y :: r => x ++ (44 :: 32 :: joinTxt (y :: r))
def goodNum (n : Int) : Prop := 0 ≤ n ∧ n < 100
theorem numTxt_len (n : Int) : (numTxt n).length ≤ 2 := by unfold numTxt; split <;> simp
theorem kindTxt_len (k : Nat) : (kindTxt k).length ≤ 6 := by unfold kindTxt; split <;> simp
end Pq
end Go.Proofs.YtcoofnhdbejnpaaGreatDoor

/- Plain functions: lists of texts, and the plain form of a query. -/
namespace Go.Proofs.YtcoofnhdbejnpaaGreatDoor
namespace Pq
def keyTxt (k : Nat × Bool) : Bytes := if k.2 then colTxt k.1 ++ 32 :: wDesc else colTxt k.1
def colsTxt (l : List Nat) : Bytes := joinTxt (l.map colTxt)
def keysTxt (l : List (Nat × Bool)) : Bytes := joinTxt (l.map keyTxt)
def fnsTxt (l : List Fn) : Bytes := joinTxt (l.map fnTxt)
def byTxt (l : List Nat) : Bytes := if l.length = 0 then [] else wBy ++ 32 :: colsTxt l ++ [32]
def topTxt (s : PS) : Bytes := (if s.hasTop then 32 :: wTop ++ 32 :: numTxt s.top else []) ++ (if 0 < s.frm then 32 :: wFrom ++ 32 :: numTxt s.frm else [])
def plainTxt (s : PS) : Bytes := byTxt s.by' ++ (wOrder ++ 32 :: keysTxt s.keys) ++ (32 :: wShow ++ 32 :: fnsTxt s.funcs) ++ topTxt s
end Pq
end Go.Proofs.YtcoofnhdbejnpaaGreatDoor

/- Plain functions: the order of a line by the KEYs, the parts by the COLs of by. -/
namespace Go.Proofs.YtcoofnhdbejnpaaGreatDoor
namespace Pv
open Pq Pr
/-- a column, by its number -/
def colV (c : Nat) (r : R3) : Int := if c = 0 then r.1 else if c = 1 then r.2.1 else r.2.2
def beforeK : List (Nat × Bool) → R3 → R3 → Bool
  | [], _, _ => false
  | (c, d) :: ks, a, b => if colV c a = colV c b then beforeK ks a b else if d then decide (colV c b < colV c a) else decide (colV c a < colV c b)
/-- are two rows in one part -/
def matesC (cs : List Nat) (a b : R3) : Bool := cs.all (fun c => decide (colV c a = colV c b))
/-- a copy of a row: which one of its row it is -/
abbrev Cpy := R3 × Nat
def aheadF (ks : List (Nat × Bool)) (a b : Cpy) : Bool :=
  if beforeK ks a.1 b.1 || beforeK ks b.1 a.1 then beforeK ks a.1 b.1
  else if lower a.1 b.1 || lower b.1 a.1 then lower a.1 b.1
  else decide (a.2 < b.2)
/-- the copies of a table that are in one part with a row -/
def copiesF (cs : List Nat) (t : List Chg) (r : R3) : List Cpy := t.flatMap (fun c => if matesC cs c.1 r then (List.range c.2.toNat).map (fun k => (c.1, k)) else [])
def lineF (ks : List (Nat × Bool)) (cs : List Nat) (t : List Chg) (r : R3) : List Cpy := place (aheadF ks) ((0, 0, 0), 0) (copiesF cs t r)
end Pv
end Go.Proofs.YtcoofnhdbejnpaaGreatDoor

/- Plain functions: the copies of a part stand in a line. -/
namespace Go.Proofs.YtcoofnhdbejnpaaGreatDoor
namespace Pv
open Pq Pr
def eqK (ks : List (Nat × Bool)) (a b : R3) : Prop := ∀ k ∈ ks, colV k.1 a = colV k.1 b
theorem eqK.symm {ks : List (Nat × Bool)} {a b : R3} (h : eqK ks a b) : eqK ks b a := fun k hk => (h k hk).symm
theorem eqK.trans {ks : List (Nat × Bool)} {a b c : R3} (h : eqK ks a b) (h2 : eqK ks b c) : eqK ks a c := fun k hk => (h k hk).trans (h2 k hk)
theorem bK_eq {ks : List (Nat × Bool)} {a b : R3} (h : eqK ks a b) : beforeK ks a b = false := by
  induction ks with
  | nil => rfl
  | cons k ks ih =>
    obtain ⟨c, d⟩ := k
    rw [beforeK, if_pos (h (c, d) (by simp))]
    exact ih (fun k hk => h k (by simp [hk]))
theorem bK_left {ks : List (Nat × Bool)} {a b c : R3} (h : eqK ks a b) : beforeK ks a c = beforeK ks b c := by
  induction ks with
  | nil => rfl
  | cons k ks ih =>
    obtain ⟨q, d⟩ := k
    have e : colV q a = colV q b := h (q, d) (by simp)
    rw [beforeK, beforeK, e, ih (fun k hk => h k (by simp [hk]))]
theorem bK_right {ks : List (Nat × Bool)} {a b c : R3} (h : eqK ks a b) : beforeK ks c a = beforeK ks c b := by
  induction ks with
  | nil => rfl
  | cons k ks ih =>
    obtain ⟨q, d⟩ := k
    have e : colV q a = colV q b := h (q, d) (by simp)
    rw [beforeK, beforeK, e, ih (fun k hk => h k (by simp [hk]))]
theorem bK_cons (c : Nat) (d : Bool) (ks : List (Nat × Bool)) (a b : R3) : beforeK ((c, d) :: ks) a b = true ↔ (colV c a = colV c b ∧ beforeK ks a b = true) ∨ (d = true ∧ colV c b < colV c a) ∨ (d = false ∧ colV c a < colV c b) := by
  rw [beforeK]
  by_cases h : colV c a = colV c b
  · rw [if_pos h, h]
    constructor
    · intro q; exact .inl ⟨rfl, q⟩
    · rintro (⟨_, q⟩ | ⟨_, q⟩ | ⟨_, q⟩)
      · exact q
      · omega
      · omega
  · rw [if_neg h]
    cases d
    · simp [h]
    · simp [h]
theorem bK_asym {ks : List (Nat × Bool)} {a b : R3} (h : beforeK ks a b = true) : beforeK ks b a = false := by
  induction ks with
  | nil => cases h
  | cons k ks ih =>
    obtain ⟨c, d⟩ := k
    rw [Bool.eq_false_iff]
    intro h2
    rw [bK_cons] at h h2
    rcases h with ⟨e, h⟩ | ⟨e, h⟩ | ⟨e, h⟩
    · rcases h2 with ⟨_, h2⟩ | ⟨_, h2⟩ | ⟨_, h2⟩
      · rw [ih h] at h2; cases h2
      · omega
      · omega
    · rcases h2 with ⟨_, h2⟩ | ⟨_, h2⟩ | ⟨e2, h2⟩
      · omega
      · omega
      · rw [e] at e2; cases e2
    · rcases h2 with ⟨_, h2⟩ | ⟨e2, h2⟩ | ⟨_, h2⟩
      · omega
      · rw [e] at e2; cases e2
      · omega
theorem bK_tr {ks : List (Nat × Bool)} {a b c : R3} (h : beforeK ks a b = true) (h2 : beforeK ks b c = true) : beforeK ks a c = true := by
  induction ks with
  | nil => cases h
  | cons k ks ih =>
    obtain ⟨q, d⟩ := k
    rw [bK_cons] at h h2 ⊢
    cases d
    · rcases h with ⟨e, h⟩ | ⟨e, h⟩ | ⟨_, h⟩
      · rcases h2 with ⟨e2, h2⟩ | ⟨e2, h2⟩ | ⟨_, h2⟩
        · exact .inl ⟨e.trans e2, ih h h2⟩
        · cases e2
        · exact .inr (.inr ⟨rfl, by omega⟩)
      · cases e
      · rcases h2 with ⟨e2, h2⟩ | ⟨e2, h2⟩ | ⟨_, h2⟩
        · exact .inr (.inr ⟨rfl, by omega⟩)
        · cases e2
        · exact .inr (.inr ⟨rfl, by omega⟩)
    · rcases h with ⟨e, h⟩ | ⟨_, h⟩ | ⟨e, h⟩
      · rcases h2 with ⟨e2, h2⟩ | ⟨_, h2⟩ | ⟨e2, h2⟩
        · exact .inl ⟨e.trans e2, ih h h2⟩
        · exact .inr (.inl ⟨rfl, by omega⟩)
        · cases e2
      · rcases h2 with ⟨e2, h2⟩ | ⟨_, h2⟩ | ⟨e2, h2⟩
        · exact .inr (.inl ⟨rfl, by omega⟩)
        · exact .inr (.inl ⟨rfl, by omega⟩)
        · cases e2
      · cases e
theorem bK_tot {ks : List (Nat × Bool)} {a b : R3} (h : beforeK ks a b = false) (h2 : beforeK ks b a = false) : eqK ks a b := by
  induction ks with
  | nil => intro k hk; cases hk
  | cons k ks ih =>
    obtain ⟨c, d⟩ := k
    have n1 : ¬ beforeK ((c, d) :: ks) a b = true := by rw [h]; exact Bool.noConfusion
    have n2 : ¬ beforeK ((c, d) :: ks) b a = true := by rw [h2]; exact Bool.noConfusion
    rw [bK_cons] at n1 n2
    have e : colV c a = colV c b := by
      refine Classical.byContradiction fun hne => ?_
      cases d
      · rcases Int.lt_or_gt_of_ne hne with q | q
        · exact n1 (.inr (.inr ⟨rfl, q⟩))
        · exact n2 (.inr (.inr ⟨rfl, q⟩))
      · rcases Int.lt_or_gt_of_ne hne with q | q
        · exact n2 (.inr (.inl ⟨rfl, q⟩))
        · exact n1 (.inr (.inl ⟨rfl, q⟩))
    have m1 : beforeK ks a b = false := by
      rw [Bool.eq_false_iff]; exact fun q => n1 (.inl ⟨e, q⟩)
    have m2 : beforeK ks b a = false := by
      rw [Bool.eq_false_iff]; exact fun q => n2 (.inl ⟨e.symm, q⟩)
    intro k hk
    rcases List.mem_cons.1 hk with rfl | hk
    · exact e
    · exact ih m1 m2 k hk
theorem ahead_iff (ks : List (Nat × Bool)) (a b : Cpy) : aheadF ks a b = true ↔ beforeK ks a.1 b.1 = true ∨ (eqK ks a.1 b.1 ∧ (lower a.1 b.1 = true ∨ (a.1 = b.1 ∧ a.2 < b.2))) := by
  unfold aheadF
  cases h1 : beforeK ks a.1 b.1
  · cases h2 : beforeK ks b.1 a.1
    · have he := bK_tot h1 h2
      simp only [Bool.or_false, Bool.false_eq_true, if_false, false_or, he, true_and]
      cases h3 : lower a.1 b.1
      · cases h4 : lower b.1 a.1
        · have e : a.1 = b.1 := Classical.byContradiction fun hne => by
            rcases lower_tot hne with q | q
            · rw [h3] at q; cases q
            · rw [h4] at q; cases q
          simp [e]
        · have hne : a.1 ≠ b.1 := fun e => by rw [e, lower_irr] at h4; cases h4
          simp [hne]
      · simp
    · have hne : ¬ eqK ks a.1 b.1 := fun e => by rw [bK_eq e.symm] at h2; cases h2
      simp [hne]
  · simp
theorem ahead_irr (ks : List (Nat × Bool)) (a : Cpy) : aheadF ks a a = false := by
  rw [Bool.eq_false_iff]; intro h
  rw [ahead_iff] at h
  rcases h with h | ⟨_, h | ⟨_, h⟩⟩
  · have := bK_asym h; rw [h] at this; cases this
  · rw [lower_irr] at h; cases h
  · omega
theorem ahead_tr {ks : List (Nat × Bool)} {a b c : Cpy} (h : aheadF ks a b = true) (h2 : aheadF ks b c = true) : aheadF ks a c = true := by
  rw [ahead_iff] at h h2 ⊢
  rcases h with h | ⟨e, h⟩
  · rcases h2 with h2 | ⟨e2, h2⟩
    · exact .inl (bK_tr h h2)
    · exact .inl (by rw [← bK_right e2]; exact h)
  · rcases h2 with h2 | ⟨e2, h2⟩
    · exact .inl (by rw [bK_left e]; exact h2)
    · refine .inr ⟨e.trans e2, ?_⟩
      rcases h with h | ⟨q, h⟩
      · rcases h2 with h2 | ⟨q2, h2⟩
        · exact .inl (lower_tr h h2)
        · exact .inl (q2 ▸ h)
      · rcases h2 with h2 | ⟨q2, h2⟩
        · exact .inl (q ▸ h2)
        · exact .inr ⟨q.trans q2, by omega⟩
theorem ahead_tot {ks : List (Nat × Bool)} {a b : Cpy} (h : a ≠ b) : aheadF ks a b = true ∨ aheadF ks b a = true := by
  rw [ahead_iff, ahead_iff]
  cases h1 : beforeK ks a.1 b.1
  · cases h2 : beforeK ks b.1 a.1
    · have he := bK_tot h1 h2
      by_cases hr : a.1 = b.1
      · have hn : a.2 ≠ b.2 := fun e => h (Prod.ext hr e)
        rcases Nat.lt_or_gt_of_ne hn with q | q
        · exact .inl (.inr ⟨he, .inr ⟨hr, q⟩⟩)
        · exact .inr (.inr ⟨he.symm, .inr ⟨hr.symm, q⟩⟩)
      · rcases lower_tot hr with q | q
        · exact .inl (.inr ⟨he, .inl q⟩)
        · exact .inr (.inr ⟨he.symm, .inl q⟩)
    · exact .inr (.inl rfl)
  · exact .inl (.inl rfl)
theorem ahead_order (ks : List (Nat × Bool)) (l : List Cpy) : Order (aheadF ks) l := ⟨fun x _ => ahead_irr ks x, fun _ _ _ _ _ _ => ahead_tr, fun _ _ _ _ => ahead_tot⟩
theorem copies_mem (cs : List Nat) (t : List Chg) (r : R3) (x : Cpy) : x ∈ copiesF cs t r ↔ ∃ c ∈ t, matesC cs c.1 r = true ∧ x.1 = c.1 ∧ x.2 < c.2.toNat := by
  unfold copiesF
  rw [List.mem_flatMap]
  constructor
  · rintro ⟨c, hc, hx⟩
    split at hx
    · rename_i hm
      obtain ⟨k, hk, rfl⟩ := List.mem_map.1 hx
      exact ⟨c, hc, hm, rfl, List.mem_range.1 hk⟩
    · cases hx
  · rintro ⟨c, hc, hm, h1, h2⟩
    refine ⟨c, hc, ?_⟩
    rw [if_pos hm]
    exact List.mem_map.2 ⟨x.2, List.mem_range.2 h2, Prod.ext h1.symm rfl⟩
theorem copies_nodup {cs : List Nat} {t : List Chg} (ht : IsTable t) (r : R3) : (copiesF cs t r).Nodup := by
  induction t with
  | nil => simp [copiesF]
  | cons c t ih =>
    have hs := ht.srt
    rw [List.pairwise_cons] at hs
    have ht2 : IsTable t := ⟨hs.2, fun d hd => ht.nz d (by simp [hd])⟩
    have e : copiesF cs (c :: t) r = (if matesC cs c.1 r then (List.range c.2.toNat).map (fun k => (c.1, k)) else []) ++ copiesF cs t r := by simp [copiesF]
    rw [e, List.nodup_append]
    refine ⟨?_, ih ht2, ?_⟩
    · split
      · rw [List.nodup_iff_pairwise_ne, List.pairwise_iff_getElem]
        intro i j hi hj hij e
        have e2 := congrArg Prod.snd e
        simp at e2
        omega
      · simp
    · intro x hx y hy exy
      subst exy
      split at hx
      · obtain ⟨k, _, rfl⟩ := List.mem_map.1 hx
        obtain ⟨d, hd, _, h1, _⟩ := (copies_mem cs t r _).1 hy
        have := hs.1 d hd
        have h1' : c.1 = d.1 := h1
        rw [h1', lower_irr] at this; cases this
      · cases hx
theorem line_spec (ks : List (Nat × Bool)) {cs : List Nat} {t : List Chg} (ht : IsTable t) (r : R3) : (lineF ks cs t r).length = (copiesF cs t r).length ∧ (∀ x, x ∈ lineF ks cs t r ↔ x ∈ copiesF cs t r) ∧ ∀ (i j : Nat) (x y : Cpy), (lineF ks cs t r)[i]? = some x → (lineF ks cs t r)[j]? = some y → i < j → aheadF ks x y = true :=
  place_spec _ (ahead_order ks _) (copies_nodup ht r)
end Pv
end Go.Proofs.YtcoofnhdbejnpaaGreatDoor

/- Plain functions: what the FUNCs are worth; out rows; the view. -/
namespace Go.Proofs.YtcoofnhdbejnpaaGreatDoor
namespace Pv
open Pq Pr
abbrev Val := Option Int
/-- a position that an EDGE means, in a line of n, for the position i -/
def edgeP (e : Edge) (n i : Int) : Int := if e.kind = 0 then 1 else if e.kind = 1 then n else if e.kind = 2 then i else if e.kind = 3 then i - e.num else i + e.num
def col0 (ks : List (Nat × Bool)) : Nat := match ks with | k :: _ => k.1 | [] => 0
/-- is the copy y at the position k in the frame of x at the position i -/
def withinF (ks : List (Nat × Bool)) (f : Frame) (n : Int) (x y : R3) (i k : Int) : Bool :=
  if f.kind = 0 then true
  else if f.kind = 1 then !(beforeK ks x y)
  else if f.kind = 2 then decide (colV (col0 ks) x - colV (col0 ks) y ≤ f.num) && decide (-(colV (col0 ks) x - colV (col0 ks) y) ≤ f.num)
  else decide (edgeP f.frm n i ≤ k) && decide (k ≤ edgeP f.to n i)
/-- the rows in the frame, from the position k on -/
def insideF (ks : List (Nat × Bool)) (f : Frame) (n : Int) (x : R3) (i : Int) : Int → List Cpy → List R3
  | _, [] => []
  | k, y :: l => if withinF ks f n x y.1 i k then y.1 :: insideF ks f n x i (k + 1) l else insideF ks f n x i (k + 1) l
def sumC (c : Nat) (l : List R3) : Int := (l.map (colV c)).sum
def minC (c : Nat) : Int → List R3 → Int
  | m, [] => m
  | m, r :: l => minC c (if colV c r < m then colV c r else m) l
def maxC (c : Nat) : Int → List R3 → Int
  | m, [] => m
  | m, r :: l => maxC c (if m < colV c r then colV c r else m) l
/-- count, sum, min, max, first, last of these rows -/
def overF (k c : Nat) (l : List R3) : Val :=
  if k = 6 then some l.length
  else match l with
    | [] => none
    | r :: q => if k = 7 then some (sumC c (r :: q)) else if k = 8 then some (minC c (colV c r) (r :: q)) else if k = 9 then some (maxC c (colV c r) (r :: q)) else if k = 10 then some (colV c r) else some (colV c ((r :: q).getLast (by simp)))
/-- how many groups of peers stand in the line up to here -/
def groupsF (ks : List (Nat × Bool)) : List Cpy → Int
  | [] => 1
  | [_] => 1
  | a :: b :: l => groupsF ks (b :: l) + (if beforeK ks a.1 b.1 then 1 else 0)
/-- of the position i of n, in m tiles: from the tile t on, of which so many are left -/
def tileG (i n m : Int) : Nat → Int → Int → Int
  | 0, _, _ => m
  | f + 1, t, e =>
    let e2 := e + n / m + (if t ≤ n % m then 1 else 0)
    if i ≤ e2 then t else tileG i n m f (t + 1) e2
def tileF (i n m : Int) : Int := tileG i n m m.toNat 1 0
/-- what a FUNC is worth for the copy at the position i (from 1 on) of a line -/
def valueF (ks : List (Nat × Bool)) (l : List Cpy) (f : Fn) (i : Nat) : Val :=
  match l[i - 1]? with
  | none => none
  | some x =>
    if f.kind = 0 then some i
    else if f.kind = 1 then some (1 + (l.countP (fun y => beforeK ks y.1 x.1) : Nat))
    else if f.kind = 2 then some (groupsF ks (l.take i))
    else if f.kind = 3 then some (tileF i l.length f.num)
    else if f.kind < 6 then
      (let j : Int := if f.kind = 4 then i - f.num else i + f.num
       if j < 1 ∨ (l.length : Int) < j then none else (l[(j - 1).toNat]?).map (fun y => colV f.col y.1))
    else overF f.kind f.col (insideF ks f.frame l.length x.1 i 1 l)
/-- out rows -/
abbrev Out := R3 × List Val × Int
/-- the order of values: none comes ahead -/
def valsLow : List Val → List Val → Bool
  | [], _ => false
  | _, [] => false
  | none :: a, none :: b => valsLow a b
  | none :: _, some _ :: _ => true
  | some _ :: _, none :: _ => false
  | some x :: a, some y :: b => if x = y then valsLow a b else decide (x < y)
def lowO (a b : Out) : Bool := if lower a.1 b.1 || lower b.1 a.1 then lower a.1 b.1 else valsLow a.2.1 b.2.1
/-- one out row more, n times -/
def countedF (l : List Out) (o : R3 × List Val) (n : Int) : List Out :=
  if l.any (fun x => decide (x.1 = o.1) && decide (x.2.1 = o.2)) then l.map (fun x => if x.1 = o.1 ∧ x.2.1 = o.2 then (x.1, x.2.1, x.2.2 + n) else x) else l ++ [(o.1, o.2, n)]
def zOut : Out := ((0, 0, 0), [], 0)
def listF (l : List Out) : List Out := (place lowO zOut l).filter (fun o => !(o.2.2 == 0))
/-- a query, as a view reads it -/
structure Qry where
  cs : List Nat
  ks : List (Nat × Bool)
  fs : List Fn
  top : Int
  frm : Int
/-- is the position shown -/
def topOk (q : Qry) (i : Int) : Bool := decide (q.top < 0) || (decide (q.frm < i) && decide (i ≤ q.frm + q.top))
/-- the copies of one row, from the position i on, each with that sign -/
def rowShown (q : Qry) (l : List Cpy) (r : R3) (sign : Int) : Nat → List Cpy → List Out → List Out
  | _, [], out => out
  | i, x :: m, out => if decide (x.1 = r) && topOk q i then rowShown q l r sign (i + 1) m (countedF out (x.1, q.fs.map (fun f => valueF q.ks l f i)) sign) else rowShown q l r sign (i + 1) m out
def shownF (q : Qry) (t : List Chg) (sign : Int) (out : List Out) : List Out := t.foldl (fun out c => rowShown q (lineF q.ks q.cs t c.1) c.1 sign 1 (lineF q.ks q.cs t c.1) out) out
def rowsF (q : Qry) (t : List Chg) : List Out := listF (shownF q t 1 [])
def appliedF (q : Qry) (t batch : List Chg) : List Out := if (refusedF t batch).1 = 0 then listF (shownF q t (-1) (shownF q (tableF t batch) 1 [])) else []
end Pv
end Go.Proofs.YtcoofnhdbejnpaaGreatDoor

/- Plain functions: FUNCs, step by step. -/
namespace Go.Proofs.YtcoofnhdbejnpaaGreatDoor
namespace Pv
open Pq Pr
theorem groups_snoc (ks : List (Nat × Bool)) : ∀ (l : List Cpy) (y x : Cpy), groupsF ks (l ++ [y] ++ [x]) = groupsF ks (l ++ [y]) + (if beforeK ks y.1 x.1 then 1 else 0)
  | [], y, x => by simp [groupsF]
  | [a], y, x => by simp [groupsF]; omega
  | a :: b :: l, y, x => by
    have ih := groups_snoc ks (b :: l) y x
    simp only [List.cons_append, groupsF] at ih ⊢
    omega
theorem groups_take (ks : List (Nat × Bool)) (l : List Cpy) (k : Nat) (h : k + 1 < l.length) : groupsF ks (l.take (k + 1 + 1)) = groupsF ks (l.take (k + 1)) + (if beforeK ks l[k].1 l[k + 1].1 then 1 else 0) := by
  rw [List.take_succ_eq_append_getElem h, List.take_succ_eq_append_getElem (show k < l.length by omega)]
  exact groups_snoc ks _ _ _
theorem sumC_snoc (c : Nat) (l : List R3) (y : R3) : sumC c (l ++ [y]) = sumC c l + colV c y := by simp [sumC]
theorem minC_snoc (c : Nat) : ∀ (l : List R3) (m : Int) (y : R3), minC c m (l ++ [y]) = if colV c y < minC c m l then colV c y else minC c m l
  | [], _, _ => rfl
  | _ :: l, _, y => minC_snoc c l _ y
theorem maxC_snoc (c : Nat) : ∀ (l : List R3) (m : Int) (y : R3), maxC c m (l ++ [y]) = if maxC c m l < colV c y then colV c y else maxC c m l
  | [], _, _ => rfl
  | _ :: l, _, y => maxC_snoc c l _ y
theorem sumC_bd (c : Nat) (l : List R3) (h : ∀ r ∈ l, -1000 ≤ colV c r ∧ colV c r ≤ 1000) : -(1000 * (l.length : Int)) ≤ sumC c l ∧ sumC c l ≤ 1000 * (l.length : Int) := by
  unfold sumC
  induction l with
  | nil => simp
  | cons r l ih =>
    have h1 := h r (List.mem_cons_self ..)
    have h2 := ih (fun x hx => h x (List.mem_cons_of_mem _ hx))
    simp only [List.map_cons, List.sum_cons, List.length_cons]
    omega
end Pv
end Go.Proofs.YtcoofnhdbejnpaaGreatDoor

