/- Plain functions: the queries that are written out of raw bytes. -/
import Derived.Test.YtcoofnhdbejnpaaDoorPlainA
namespace Go.Proofs.YtcoofnhdbejnpaaDoor
namespace Pk
open Pq (Bytes)
structure TS where
  a : Nat
  raw : Bytes
  plain : Bytes
def nxt (l : Bytes) (a n : Nat) : Nat := if h : a < l.length then l[a].toNat % n else 0
def adv (l : Bytes) (a : Nat) : Nat := if a < l.length then a + 1 else a
def TS.eat (l : Bytes) (x : TS) : TS := { x with a := adv l x.a }
def pre (x : TS) : Bytes := if x.plain = [] then [] else [32]
def wordS (l : Bytes) (t : Bytes) (x : TS) : TS := ⟨adv l x.a, x.raw ++ pre x ++ (if nxt l x.a 6 = 1 then [10, 32] else []) ++ t, x.plain ++ pre x ++ t⟩
def gluedS (l : Bytes) (t : Bytes) (x : TS) : TS := ⟨adv l x.a, x.raw ++ (if nxt l x.a 4 = 1 then [32] else []) ++ t, x.plain ++ t⟩
def blankB (b : Bool) : Bytes := if b then [32] else []
def nought (l : Bytes) (n : Nat) (x : TS) : Bytes := if n < 10 ∧ nxt l x.a 3 = 1 then [48] else []
def numberS (l : Bytes) (n : Nat) (b : Bool) (x : TS) : TS := ⟨if n < 10 then adv l x.a else x.a, x.raw ++ blankB b ++ nought l n x ++ Pq.numTxt n, x.plain ++ blankB b ++ Pq.numTxt n⟩
def colW : Nat → Bytes | 0 => [112] | 1 => [107] | 2 => [118] | 3 => [112] | _ => [107]
def descS (l : Bytes) (keys : Bool) (x : TS) : TS := if keys then (if nxt l x.a 3 = 1 then wordS l [100, 101, 115, 99] (x.eat l) else x.eat l) else x
def commaS (l : Bytes) (i : Nat) (x : TS) : TS := if 0 < i then gluedS l [44] x else x
def colStep (l : Bytes) (keys : Bool) (at' i : Nat) (x : TS) : TS := descS l keys (wordS l (colW (at' + i)) (commaS l i x))
def colsTo (l : Bytes) (keys : Bool) (at' : Nat) : Nat → TS → TS
  | 0, x => x
  | k + 1, x => colStep l keys at' k (colsTo l keys at' k x)
def colsS (l : Bytes) (keys : Bool) (x : TS) : TS := colsTo l keys (nxt l x.a 3) (1 + nxt l (adv l x.a) 3) ((x.eat l).eat l)
def edgeW : Nat → Bytes | 0 => Pq.wStart | 1 => Pq.wEnd | 2 => Pq.wHere | 3 => Pq.wBack | _ => Pq.wOn
def edgeS (l : Bytes) (x : TS) : TS :=
  if nxt l x.a 5 < 3 then wordS l (edgeW (nxt l x.a 5)) (x.eat l)
  else wordS l (edgeW (nxt l x.a 5)) (numberS l (nxt l (adv l x.a) 5) true ((x.eat l).eat l))
def nearS (l : Bytes) (x : TS) : TS := numberS l (nxt l (wordS l Pq.wNear x).a 20) true ((wordS l Pq.wNear x).eat l)
def betweenS (l : Bytes) (x : TS) : TS := edgeS l (wordS l Pq.wTo (edgeS l x))
def frameS (l : Bytes) (x : TS) : TS :=
  if nxt l x.a 4 = 1 then wordS l Pq.wAll (x.eat l)
  else if nxt l (adv l x.a) 4 = 1 then wordS l Pq.wPeers ((x.eat l).eat l)
  else if nxt l (adv l (adv l x.a)) 4 = 1 then nearS l (((x.eat l).eat l).eat l)
  else betweenS l (((x.eat l).eat l).eat l)
/-- behind the name of a FUNC with a column: ( c , -/
def colArg (l : Bytes) (x : TS) : TS := gluedS l [44] (gluedS l (colW (nxt l (gluedS l [40] x).a 3)) ((gluedS l [40] x).eat l))
def lagS (l : Bytes) (x : TS) : TS := numberS l (nxt l x.a 4) true (x.eat l)
def tileS (l : Bytes) (x : TS) : TS := numberS l (1 + nxt l x.a 6) false (x.eat l)
def funS (l : Bytes) (x : TS) : TS :=
  let k := nxt l x.a 12
  let y := wordS l (Pq.kindTxt k) (x.eat l)
  if k < 3 then y
  else if k = 3 then gluedS l [41] (tileS l (gluedS l [40] y))
  else if k < 6 then gluedS l [41] (lagS l (colArg l y))
  else gluedS l [41] (frameS l (colArg l y))
def funsTo (l : Bytes) : Nat → TS → TS
  | 0, x => x
  | k + 1, x => funS l (commaS l k (funsTo l k x))
def byS (l : Bytes) (b : Bool) (x : TS) : TS := if b then colsS l false (wordS l [98, 121] x) else x
def mainS (l : Bytes) (b : Bool) (x : TS) : TS :=
  let y := wordS l [115, 104, 111, 119] (colsS l true (wordS l [111, 114, 100, 101, 114] (byS l b x)))
  funsTo l (1 + nxt l y.a 4) (y.eat l)
def topS (l : Bytes) (x : TS) : TS :=
  let y := wordS l [116, 111, 112] x
  let z := numberS l (nxt l y.a 6) true (y.eat l)
  let u := numberS l (nxt l z.a 3) true (wordS l [102, 114, 111, 109] (z.eat l))
  if nxt l z.a 3 = 0 then { u with plain := u.plain.take (u.plain.length - 7) } else u
def queryS (l : Bytes) (b t : Bool) : TS := if t then topS l (mainS l b ⟨0, [], []⟩) else mainS l b ⟨0, [], []⟩
theorem nxt_lt (l : Bytes) (a n : Nat) (h : 0 < n) : nxt l a n < n := by
  unfold nxt; split
  · exact Nat.mod_lt _ h
  · exact h
end Pk
end Go.Proofs.YtcoofnhdbejnpaaDoor
