/- Plain functions: reading a text; what its tokens are. -/
import Derived.Test.YtjmogpgccnljdaaDoorSt
namespace Go.Proofs.YtjmogpgccnljdaaDoor
namespace Pq
def toksOf (l : Bytes) : List Tok := (lexFrom l 0).1
def endPS (l : Bytes) : PS := queryS (toksOf l) l.length ps0
def readE (l : Bytes) : Int := if 300 < l.length then 1 else if (lexFrom l 0).2 = -1 then faultE (endPS l) else 2
def readP (l : Bytes) : Int := if 300 < l.length then 0 else if (lexFrom l 0).2 = -1 then faultP (toksOf l) l.length (endPS l) else (lexFrom l 0).2
theorem isSgn_not_dig {c : UInt8} (h : isDig c = true) : isSgn c = false := by
  simp only [isDig, Bool.and_eq_true, decide_eq_true_eq] at h
  simp only [isSgn, Bool.or_eq_false_iff, beq_eq_false_iff_ne]
  omega
def GoodTok (t : Tok) : Prop := t.num = true → t.text.length ≤ 2 ∧ ∀ c ∈ t.text, isDig c = true
theorem text_rowEnd (p : UInt8 → Bool) (l : Bytes) (n : Nat) : (l.take (rowEnd p l n)).drop n = (l.drop n).takeWhile p := by
  rw [List.drop_take]
  have e : rowEnd p l n - n = ((l.drop n).takeWhile p).length := by unfold rowEnd; omega
  rw [e]
  exact (List.prefix_iff_eq_take.1 (List.takeWhile_prefix p)).symm
theorem lexFrom_good (l : Bytes) (n : Nat) : ∀ t ∈ (lexFrom l n).1, GoodTok t := by
  induction n using lexFrom.induct (l := l) with
  | case1 n h hb ih => rw [lexFrom_blk h hb]; exact ih
  | case2 n h hb he => rw [lexFrom_bad h (by simpa using hb) he]; intro t ht; cases ht
  | case3 n h hb he ih =>
    rw [lexFrom_tok h (by simpa using hb) (by omega)]
    intro t ht
    rcases List.mem_cons.1 ht with rfl | ht
    · intro hd
      simp only at hd ⊢
      have hs := isSgn_not_dig hd
      have e : tokEnd l n = if rowEnd isDig l n - n > 2 then n else rowEnd isDig l n := by unfold tokEnd; rw [dif_pos h]; simp [hs, hd]
      by_cases h2 : rowEnd isDig l n - n > 2
      · rw [e, if_pos h2] at he; omega
      · rw [e, if_neg h2]
        rw [text_rowEnd]
        refine ⟨?_, fun c hc => ?_⟩
        · have : rowEnd isDig l n - n = ((l.drop n).takeWhile isDig).length := by unfold rowEnd; omega
          omega
        · exact List.all_eq_true.1 List.all_takeWhile c hc
    · exact ih t ht
  | case4 n h => rw [lexFrom_end h]; intro t ht; cases ht
theorem lexFrom_len (l : Bytes) (n : Nat) : (lexFrom l n).1.length ≤ l.length - n := by
  induction n using lexFrom.induct (l := l) with
  | case1 n h hb ih => rw [lexFrom_blk h hb]; omega
  | case2 n h hb he => rw [lexFrom_bad h (by simpa using hb) he]; simp
  | case3 n h hb he ih =>
    rw [lexFrom_tok h (by simpa using hb) (by omega)]
    simp only [List.length_cons]; omega
  | case4 n h => rw [lexFrom_end h]; simp
theorem readE_long {l : Bytes} (h : 300 < l.length) : readE l = 1 ∧ readP l = 0 := by simp [readE, readP, h]
theorem readE_bad {l : Bytes} (h : ¬ 300 < l.length) (hl : ¬ (lexFrom l 0).2 = -1) : readE l = 2 ∧ readP l = (lexFrom l 0).2 := by simp [readE, readP, h, hl]
theorem readE_ok {l : Bytes} (h : ¬ 300 < l.length) (hl : (lexFrom l 0).2 = -1) : readE l = faultE (endPS l) ∧ readP l = faultP (toksOf l) l.length (endPS l) := by simp [readE, readP, h, hl]
end Pq
end Go.Proofs.YtjmogpgccnljdaaDoor
