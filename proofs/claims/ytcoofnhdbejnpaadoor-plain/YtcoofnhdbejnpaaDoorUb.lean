/- Plain functions: how long the texts become. -/
import Derived.Test.YtcoofnhdbejnpaaDoorUa
namespace Go.Proofs.YtcoofnhdbejnpaaDoor
namespace Pk
open Pq (Bytes)
def Ln (n : Nat) (x : TS) : Prop := x.raw.length ≤ n ∧ x.plain.length ≤ n
theorem Ln.mono {n m : Nat} {x : TS} (h : Ln n x) (hm : n ≤ m) : Ln m x := ⟨Nat.le_trans h.1 hm, Nat.le_trans h.2 hm⟩
theorem Ln.eat {n : Nat} {x : TS} (h : Ln n x) (l : Bytes) : Ln n (x.eat l) := h
theorem Ln.word {n : Nat} {x : TS} (h : Ln n x) (l t : Bytes) {k : Nat} (ht : t.length ≤ k) : Ln (n + (k + 3)) (wordS l t x) := by
  have h1 := h.1; have h2 := h.2
  have hp : (pre x).length ≤ 1 := by unfold pre; split <;> simp
  have hq : (if nxt l x.a 6 = 1 then ([10, 32] : Bytes) else []).length ≤ 2 := by split <;> simp
  constructor <;> simp only [wordS, List.length_append] <;> omega
theorem Ln.glued {n : Nat} {x : TS} (h : Ln n x) (l t : Bytes) {k : Nat} (ht : t.length ≤ k) : Ln (n + (k + 1)) (gluedS l t x) := by
  have h1 := h.1; have h2 := h.2
  have hq : (if nxt l x.a 4 = 1 then ([32] : Bytes) else []).length ≤ 1 := by split <;> simp
  constructor <;> simp only [gluedS, List.length_append] <;> omega
theorem numTxt_small {k : Nat} (h : k < 10) : (Pq.numTxt (k : Int)).length = 1 := by unfold Pq.numTxt; rw [if_pos (by omega)]; rfl
theorem Ln.number {n : Nat} {x : TS} (h : Ln n x) (l : Bytes) (k : Nat) (b : Bool) : Ln (n + 3) (numberS l k b x) := by
  have h1 := h.1; have h2 := h.2
  have hb : (blankB b).length ≤ 1 := by unfold blankB; split <;> simp
  have hq := Pq.numTxt_len (k : Int)
  by_cases hk : k < 10
  · have hn : (nought l k x).length ≤ 1 := by unfold nought; split <;> simp
    have := numTxt_small hk
    constructor <;> simp only [numberS, List.length_append] <;> omega
  · have hn : nought l k x = [] := by unfold nought; rw [if_neg (by omega)]
    constructor <;> simp only [numberS, List.length_append, hn, List.length_nil] <;> omega
theorem colW_len (j : Nat) : (colW j).length = 1 := by unfold colW; split <;> rfl
theorem edgeW_len (j : Nat) : (edgeW j).length ≤ 5 := by unfold edgeW; split <;> simp [Pq.wStart, Pq.wEnd, Pq.wHere, Pq.wBack, Pq.wOn]
theorem Ln.desc {n : Nat} {x : TS} (h : Ln n x) (l : Bytes) (keys : Bool) : Ln (n + 7) (descS l keys x) := by
  unfold descS
  repeat' split
  · exact ((h.eat l).word l _ (k := 4) (by simp))
  · exact (h.eat l).mono (by omega)
  · exact h.mono (by omega)
theorem Ln.comma {n : Nat} {x : TS} (h : Ln n x) (l : Bytes) (i : Nat) : Ln (n + 2) (commaS l i x) := by
  unfold commaS; split
  · exact h.glued l _ (k := 1) (by simp)
  · exact h.mono (by omega)
theorem Ln.colStep {n : Nat} {x : TS} (h : Ln n x) (l : Bytes) (keys : Bool) (a i : Nat) : Ln (n + 13) (colStep l keys a i x) := by
  unfold Pk.colStep
  exact (((h.comma l i).word l (colW (a + i)) (k := 1) (by rw [colW_len]; omega)).desc l keys).mono (by omega)
theorem Ln.colsTo {n : Nat} {x : TS} (h : Ln n x) (l : Bytes) (keys : Bool) (a : Nat) : ∀ k, Ln (n + 13 * k) (colsTo l keys a k x)
  | 0 => h
  | k + 1 => ((Ln.colsTo h l keys a k).colStep l keys a k).mono (by omega)
theorem Ln.cols {n : Nat} {x : TS} (h : Ln n x) (l : Bytes) (keys : Bool) : Ln (n + 39) (colsS l keys x) := by
  have := nxt_lt l (adv l x.a) 3 (by omega)
  exact (Ln.colsTo (((h.eat l).eat l)) l keys _ _).mono (by omega)
theorem Ln.edge {n : Nat} {x : TS} (h : Ln n x) (l : Bytes) : Ln (n + 11) (edgeS l x) := by
  unfold edgeS; split
  · exact ((h.eat l).word l _ (edgeW_len _)).mono (by omega)
  · exact (((h.eat l).eat l).number l _ _).word l _ (edgeW_len _)
theorem Ln.frame {n : Nat} {x : TS} (h : Ln n x) (l : Bytes) : Ln (n + 27) (frameS l x) := by
  unfold frameS nearS betweenS
  repeat' split
  · exact ((h.eat l).word l Pq.wAll (k := 3) (by simp [Pq.wAll])).mono (by omega)
  · exact (((h.eat l).eat l).word l Pq.wPeers (k := 5) (by simp [Pq.wPeers])).mono (by omega)
  · exact (((((h.eat l).eat l).eat l).word l Pq.wNear (k := 4) (by simp [Pq.wNear])).eat l |>.number l _ _).mono (by omega)
  · exact ((((((h.eat l).eat l).eat l).edge l).word l Pq.wTo (k := 2) (by simp [Pq.wTo])).edge l).mono (by omega)
theorem Ln.colArg {n : Nat} {x : TS} (h : Ln n x) (l : Bytes) : Ln (n + 6) (colArg l x) := by
  unfold Pk.colArg
  exact ((((h.glued l [40] (k := 1) (by simp)).eat l).glued l (colW _) (k := 1) (by rw [colW_len]; omega)).glued l [44] (k := 1) (by simp)).mono (by omega)
theorem Ln.fn {n : Nat} {x : TS} (h : Ln n x) (l : Bytes) : Ln (n + 44) (funS l x) := by
  have hy := (h.eat l).word l (Pq.kindTxt (nxt l x.a 12)) (Pq.kindTxt_len _)
  unfold funS
  simp only
  repeat' split
  · exact hy.mono (by omega)
  · unfold tileS
    exact ((((hy.glued l [40] (k := 1) (by simp)).eat l).number l _ _).glued l [41] (k := 1) (by simp)).mono (by omega)
  · unfold lagS
    exact ((((hy.colArg l).eat l).number l _ _).glued l [41] (k := 1) (by simp)).mono (by omega)
  · exact (((hy.colArg l).frame l).glued l [41] (k := 1) (by simp)).mono (by omega)
theorem Ln.funsTo {n : Nat} {x : TS} (h : Ln n x) (l : Bytes) : ∀ k, Ln (n + 46 * k) (funsTo l k x)
  | 0 => h
  | k + 1 => (((Ln.funsTo h l k).comma l k).fn l).mono (by omega)
end Pk
end Go.Proofs.YtcoofnhdbejnpaaDoor
