/- All blocks but some are as they were. -/
import Derived.Test.YtcoofnhdbejnpaaDoorWh
namespace Go.Proofs.YtcoofnhdbejnpaaDoor
open Go.RowKit
/-- all blocks but those of S are as they were -/
structure But (S : Nat → Prop) (w w' : World) : Prop where
  os : w'.os = w.os
  tape : w'.tape = w.tape
  output : w'.output = w.output
  size : w.heap.size ≤ w'.heap.size
  block : ∀ k, k < w.heap.size → ¬ S k → w'.heap[k]? = w.heap[k]?
theorem But.below {S : Nat → Prop} {w w' : World} (h : But S w w') {B : Nat} (hS : ∀ k, k < B → ¬ S k) (hB : B ≤ w.heap.size) : Below B w w' :=
  ⟨h.os, h.tape, h.output, h.size, fun k hk => h.block k (by omega) (hS k hk)⟩
theorem But.push {w w6 : World} {o : Obj} {v : Value} (hg : (w.alloc o).grownBy w6 v.ownBlock) : But (fun k => v.ownBlock = some k) w w6 := by
  have b0 : Below 0 w w6 := ((Below.refl 0 w).alloc (Nat.zero_le _) o).grown hg (Nat.zero_le _) (fun _ _ => Nat.zero_le _)
  refine ⟨b0.os, b0.tape, b0.output, b0.size, fun k hk hn => ?_⟩
  rw [hg.block k (by simp; omega) (fun e => hn e.symm)]
  exact ((Below.refl w.heap.size w).alloc (Nat.le_refl _) o).block k hk
theorem But.set {S : Nat → Prop} {w w6 : World} (h : But S w w6) (b j : Nat) (v : Value) : But (fun k => k = b ∨ S k) w (w6.setCell ⟨b, j, none⟩ v) := by
  have b0 : Below 0 w6 (w6.setCell ⟨b, j, none⟩ v) := (Below.refl 0 w6).setCell (p := ⟨b, j, none⟩) (Nat.zero_le _) v
  refine ⟨b0.os.trans h.os, b0.tape.trans h.tape, b0.output.trans h.output, Nat.le_trans h.size b0.size, fun k hk hn => ?_⟩
  rw [set_far _ _ _ _ k (fun e => hn (.inl e))]
  exact h.block k hk (fun e => hn (.inr e))
theorem But.trans {S T : Nat → Prop} {w w1 w2 : World} (h : But S w w1) (k : But T w1 w2) : But (fun i => S i ∨ (T i ∧ i < w.heap.size)) w w2 :=
  ⟨k.os.trans h.os, k.tape.trans h.tape, k.output.trans h.output, Nat.le_trans h.size k.size, fun i hi hn => by rw [k.block i (by have := h.size; omega) (fun e => hn (.inr ⟨e, hi⟩)), h.block i hi (fun e => hn (.inl e))]⟩
theorem But.weak {S T : Nat → Prop} {w w1 : World} (h : But S w w1) (hs : ∀ k, k < w.heap.size → S k → T k) : But T w w1 := ⟨h.os, h.tape, h.output, h.size, fun k hk hn => h.block k hk (fun e => hn (hs k hk e))⟩
theorem own_but {w w' : World} {B e size n : Nat} {v : Value} {xs : List Value} (h : w.ownsRow B e size v n xs) {S : Nat → Prop} (hb : But S w w') (hs : ∀ g, v.ownBlock = some g → ¬ S g) : w'.ownsRow B e size v n xs := by
  refine ⟨h.1, ?_⟩
  rcases h.2 with h1 | ⟨g, cap, cur, h1, h2, h3, h4⟩
  · exact .inl h1
  · exact .inr ⟨g, cap, cur, h1, h2, by rw [hb.block g (Array.getElem?_eq_some_iff.1 h3).1 (hs g (by rw [h1]; rfl))]; exact h3, h4⟩
theorem own_at {w : World} {B e size n : Nat} {v : Value} {xs : List Value} (h : w.ownsRow B e size v n xs) {g : Nat} (hg : v.ownBlock = some g) : B ≤ g ∧ g < w.heap.size := by
  rcases h.2 with ⟨h1, _⟩ | ⟨g', cap, cur, h1, h2, h3, _⟩
  · rw [h1] at hg; cases hg
  · rw [h1] at hg; cases hg; exact ⟨h2, (Array.getElem?_eq_some_iff.1 h3).1⟩
end Go.Proofs.YtcoofnhdbejnpaaDoor
