/- What a script reads as: the cells of its steps. -/
import Derived.ProofKit
import Derived.LaidMore
import Derived.OpenShut
import Derived.ShutString
import Derived.Stop.Joined
import Derived.Deep.Slices
import Derived.WideKeyArgs
import Derived.Test.YtcoofnhdbejnpaaDoorProg
namespace Go.Proofs.YtcoofnhdbejnpaaDoor
open Go.ChangeShapes Go.WideShapes Go.ChangeAt Go.RowKit Go.Deep
theorem own : ownKnob Tryd.prog.godebug = none := by kernel_rfl
theorem laidOut : laidOutB Tryd.prog = true := by kernel_rfl
theorem cellsOp : Tryd.prog.cellsOf 25 = 6 := by kernel_rfl
theorem cellsInt : Tryd.prog.cellsOf 3 = 1 := by kernel_rfl
theorem cellsStr : Tryd.prog.cellsOf 9 = 1 := by kernel_rfl
def opK (w : World) (a : Addr) (i : Nat) : Int := match w.cell? (a.add (i * 6)) with | some (.int _ z) => z | _ => 0
def opS (w : World) (a : Addr) (i : Nat) : ByteArray := match w.cell? (a.add (i * 6 + 4)) with | some (.string s) => s | _ => ByteArray.empty
theorem add_add4 (a : Addr) (n j : Nat) : (a.add n).add j = a.add (n + j) := by
  unfold Addr.add
  by_cases h : n = 0
  · subst h; simp
  · by_cases hj : j = 0
    · subst hj; simp [h]
    · simp [h, hj]; omega
theorem list6 : ∀ (cs : List Value), cs.length = 6 → ∃ c0 c1 c2 c3 c4 c5, cs = [c0, c1, c2, c3, c4, c5]
  | [c0, c1, c2, c3, c4, c5], _ => ⟨c0, c1, c2, c3, c4, c5, rfl⟩
  | [], h => by simp at h
  | [_], h => by simp at h
  | [_, _], h => by simp at h
  | [_, _, _], h => by simp at h
  | [_, _, _, _], h => by simp at h
  | [_, _, _, _, _], h => by simp at h
  | _ :: _ :: _ :: _ :: _ :: _ :: _ :: _, h => by simp at h
theorem op_cells {H : Type} {enc : TypeId × Value → H} {W : World} {a : Addr} {i n : Nat} {cs : List Value} {x : DataW H × List MemPlace} (hc : W.cells? 0 (a.add (i * 6)) 6 = some cs) (ht : DataW.trod enc Tryd.prog W 0 (fun _ => true) true n 25 cs = some x) :
    W.cell? (a.add (i * 6)) = some (.int .i64 (opK W a i)) ∧ W.cell? (a.add (i * 6 + 4)) = some (.string (opS W a i)) ∧ (opS W a i).size ≤ maxLen := by
  obtain ⟨_, hlen, hget⟩ := World.cells?_some hc
  obtain ⟨xs, n', rfl, rfl, hl, hx, hf⟩ := DataW.trod_struct Tryd.underlying25 ht
  have h0 := hf 0 _ rfl
  have h4 := hf 4 _ rfl
  have hx0 : ∃ y, xs[0]? = some y := ⟨xs[0]'(by rw [hx]; decide), List.getElem?_eq_getElem _⟩
  have hx4 : ∃ y, xs[4]? = some y := ⟨xs[4]'(by rw [hx]; decide), List.getElem?_eq_getElem _⟩
  obtain ⟨y0, e0⟩ := hx0
  obtain ⟨y4, e4⟩ := hx4
  rw [e0] at h0
  rw [e4] at h4
  obtain ⟨z, hz, _, _⟩ := DataW.trod_int Tryd.underlying3 h0
  obtain ⟨s, hs, _, hsz⟩ := DataW.trod_string Tryd.underlying9 h4
  have hz : (cs.drop 0).take 1 = [.int .i64 z] := (congrArg (fun n => (cs.drop 0).take n) cellsInt).symm.trans hz
  have hs : (cs.drop 4).take 1 = [.string s] := (congrArg (fun n => (cs.drop 4).take n) cellsStr).symm.trans hs
  have g0 := hget 0 (by omega)
  have g4 := hget 4 (by omega)
  rw [add_add4] at g0 g4
  clear ht h0 h4 hl hf hget hc e0 e4
  obtain ⟨c0, c1, c2, c3, c4, c5, rfl⟩ := list6 cs hlen
  have z2 : c0 = .int .i64 z := List.head_eq_of_cons_eq hz
  have s2 : c4 = .string s := List.head_eq_of_cons_eq hs
  have g0 : W.cell? (a.add (i * 6)) = some (.int .i64 z) := by rw [← z2]; exact g0
  have g4 : W.cell? (a.add (i * 6 + 4)) = some (.string s) := by rw [← s2]; exact g4
  have k0 : opK W a i = z := by unfold opK; rw [g0]
  have k4 : opS W a i = s := by unfold opS; rw [g4]
  rw [k0, k4]
  exact ⟨g0, g4, hsz⟩
end Go.Proofs.YtcoofnhdbejnpaaDoor
