/- Plain functions: the parser's greater steps. -/
import Derived.Test.YtjmogpgccnljdaaDoorSp
namespace Go.Proofs.YtjmogpgccnljdaaDoor
namespace Pq
def tileS (toks : List Tok) (len : Nat) (s : PS) : PS := if numV toks s = 0 ∧ (numS toks s).arg = -1 then { numS toks s with arg := placeS toks len s } else numS toks s
def wStart : Bytes := [115, 116, 97, 114, 116]
def wEnd : Bytes := [101, 110, 100]
def wHere : Bytes := [104, 101, 114, 101]
def wBack : Bytes := [98, 97, 99, 107]
def wOn : Bytes := [111, 110]
def wAll : Bytes := [97, 108, 108]
def wPeers : Bytes := [112, 101, 101, 114, 115]
def wNear : Bytes := [110, 101, 97, 114]
def wTo : Bytes := [116, 111]
def edgeR (toks : List Tok) (s : PS) : Edge × PS :=
  if takes toks wStart s then (⟨0, 0⟩, s.step) else if takes toks wEnd s then (⟨1, 0⟩, s.step) else if takes toks wHere s then (⟨2, 0⟩, s.step)
  else if takes toks wBack (numS toks s) then (⟨3, numV toks s⟩, (numS toks s).step) else (⟨4, numV toks s⟩, wantS toks wOn (numS toks s))
def frameR (toks : List Tok) (s : PS) : Frame × PS :=
  if takes toks wAll s then (⟨0, 0, ⟨0, 0⟩, ⟨0, 0⟩⟩, s.step) else if takes toks wPeers s then (⟨1, 0, ⟨0, 0⟩, ⟨0, 0⟩⟩, s.step)
  else if takes toks wNear s then (⟨2, numV toks s.step, ⟨0, 0⟩, ⟨0, 0⟩⟩, numS toks s.step)
  else (⟨3, 0, (edgeR toks s).1, (edgeR toks (wantS toks wTo (edgeR toks s).2)).1⟩, (edgeR toks (wantS toks wTo (edgeR toks s).2)).2)
def wOpen : Bytes := [40]
def wClose : Bytes := [41]
def wComma : Bytes := [44]
def fr0 : Frame := ⟨0, 0, ⟨0, 0⟩, ⟨0, 0⟩⟩
def tileR (toks : List Tok) (len : Nat) (s : PS) : Fn × PS := (⟨3, 0, numV toks (wantS toks wOpen s), fr0⟩, wantS toks wClose (tileS toks len (wantS toks wOpen s)))
/-- behind the kind: ( COL , -/
def colComma (toks : List Tok) (s : PS) : PS := wantS toks wComma (oneOfS toks colTxt 3 (wantS toks wOpen s))
def lagR (toks : List Tok) (k : Nat) (s : PS) : Fn × PS := (⟨k, oneOfV toks colTxt 3 (wantS toks wOpen s), numV toks (colComma toks s), fr0⟩, wantS toks wClose (numS toks (colComma toks s)))
def overR (toks : List Tok) (k : Nat) (s : PS) : Fn × PS := (⟨k, oneOfV toks colTxt 3 (wantS toks wOpen s), 0, (frameR toks (colComma toks s)).1⟩, wantS toks wClose (frameR toks (colComma toks s)).2)
def funcR (toks : List Tok) (len : Nat) (s : PS) : Fn × PS :=
  if oneOfV toks kindTxt 12 s < 3 then (⟨oneOfV toks kindTxt 12 s, 0, 0, fr0⟩, oneOfS toks kindTxt 12 s)
  else if oneOfV toks kindTxt 12 s = 3 then tileR toks len (oneOfS toks kindTxt 12 s)
  else if oneOfV toks kindTxt 12 s < 6 then lagR toks (oneOfV toks kindTxt 12 s) (oneOfS toks kindTxt 12 s)
  else overR toks (oneOfV toks kindTxt 12 s) (oneOfS toks kindTxt 12 s)
theorem oneOfV_lt (toks : List Tok) (txt : Nat → Bytes) (n : Nat) (s : PS) (h : 0 < n) : oneOfV toks txt n s < n := by
  unfold oneOfV firstTake
  split
  · rename_i j hj
    have := List.mem_of_find?_eq_some hj
    simpa using this
  · exact h
end Pq
end Go.Proofs.YtjmogpgccnljdaaDoor
