/- Plain functions: the end of a query, in steps. -/
import Derived.Test.YtcoofnhdbejnpaaDoorUb
namespace Go.Proofs.YtcoofnhdbejnpaaDoor
namespace Pk
open Pq (Bytes)
def top5 (l : Bytes) (z : TS) : TS := numberS l (nxt l z.a 3) true (wordS l [102, 114, 111, 109] (z.eat l))
def top4 (l : Bytes) (z : TS) : TS := if nxt l z.a 3 = 0 then { top5 l z with plain := (top5 l z).plain.take ((top5 l z).plain.length - 7) } else top5 l z
def top3 (l : Bytes) (y : TS) : TS := top4 l (numberS l (nxt l y.a 6) true (y.eat l))
theorem numTxt_pos (n : Int) : 1 ≤ (Pq.numTxt n).length := by unfold Pq.numTxt; split <;> simp
theorem top5_len (l : Bytes) (z : TS) (h : z.plain ≠ []) : 7 ≤ (top5 l z).plain.length := by
  have hp : (pre (z.eat l)) = [32] := by unfold pre TS.eat; rw [if_neg h]
  have h1 := numTxt_pos (nxt l z.a 3 : Int)
  have h2 : 1 ≤ z.plain.length := by cases hz : z.plain with | nil => exact absurd hz h | cons => simp
  simp only [top5, numberS, wordS, hp, List.length_append, blankB, if_true, List.length_cons, List.length_nil]
  simp only [TS.eat]
  omega
end Pk
end Go.Proofs.YtcoofnhdbejnpaaDoor
