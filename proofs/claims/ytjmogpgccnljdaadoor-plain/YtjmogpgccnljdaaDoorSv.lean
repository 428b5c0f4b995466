/- Plain functions: the texts that a query is told by. -/
import Derived.Test.YtjmogpgccnljdaaDoorSu
namespace Go.Proofs.YtjmogpgccnljdaaDoor
namespace Pq
def numTxt (n : Int) : Bytes := if n < 10 then [UInt8.ofNat (48 + n.toNat)] else [UInt8.ofNat (48 + n.toNat / 10), UInt8.ofNat (48 + n.toNat % 10)]
def edgeTxt (e : Edge) : Bytes := if e.kind = 0 then wStart else if e.kind = 1 then wEnd else if e.kind = 2 then wHere else if e.kind = 3 then numTxt e.num ++ 32 :: wBack else numTxt e.num ++ 32 :: wOn
def frameTxt (f : Frame) : Bytes := if f.kind = 0 then wAll else if f.kind = 1 then wPeers else if f.kind = 2 then wNear ++ 32 :: numTxt f.num else edgeTxt f.frm ++ (32 :: wTo ++ [32]) ++ edgeTxt f.to
def fnTxt (f : Fn) : Bytes :=
  if f.kind < 3 then kindTxt f.kind
  else if f.kind = 3 then kindTxt f.kind ++ (wOpen ++ numTxt f.num) ++ wClose
  else if f.kind < 6 then kindTxt f.kind ++ (wOpen ++ colTxt f.col) ++ (wComma ++ 32 :: numTxt f.num) ++ wClose
  else kindTxt f.kind ++ (wOpen ++ colTxt f.col) ++ (wComma ++ 32 :: frameTxt f.frame) ++ wClose
/-- with ', ' between each two -/
def joinTxt : List Bytes → Bytes
  | [] => []
  | [x] => x
  | x :: y :: r => x ++ (44 :: 32 :: joinTxt (y :: r))
def goodNum (n : Int) : Prop := 0 ≤ n ∧ n < 100
def goodEdge (e : Edge) : Prop := goodNum e.num
def goodFrame (f : Frame) : Prop := goodNum f.num ∧ goodEdge f.frm ∧ goodEdge f.to
def goodFn (f : Fn) : Prop := f.kind < 12 ∧ f.col < 3 ∧ goodNum f.num ∧ goodFrame f.frame
theorem numTxt_len (n : Int) : (numTxt n).length ≤ 2 := by unfold numTxt; split <;> simp
theorem edgeTxt_len (e : Edge) : (edgeTxt e).length ≤ 8 := by
  have h := numTxt_len e.num
  unfold edgeTxt
  repeat' split
  all_goals simp [wStart, wEnd, wHere, wBack, wOn]
  all_goals omega
theorem frameTxt_len (f : Frame) : (frameTxt f).length ≤ 20 := by
  have h := numTxt_len f.num; have h1 := edgeTxt_len f.frm; have h2 := edgeTxt_len f.to
  unfold frameTxt
  repeat' split
  all_goals simp [wAll, wPeers, wNear, wTo]
  all_goals omega
theorem kindTxt_len (k : Nat) : (kindTxt k).length ≤ 6 := by unfold kindTxt; split <;> simp
theorem colTxt_len (k : Nat) : (colTxt k).length = 1 := by unfold colTxt; split <;> simp
theorem fnTxt_len (f : Fn) : (fnTxt f).length ≤ 40 := by
  have h := numTxt_len f.num; have h1 := frameTxt_len f.frame; have h2 := kindTxt_len f.kind; have h3 := colTxt_len f.col
  unfold fnTxt
  repeat' split
  all_goals simp [wOpen, wClose, wComma]
  all_goals omega
end Pq
end Go.Proofs.YtjmogpgccnljdaaDoor
