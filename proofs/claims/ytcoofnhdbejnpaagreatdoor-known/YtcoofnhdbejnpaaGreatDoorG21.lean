/- Package panesref: cut. -/
import Derived.Test.YtcoofnhdbejnpaaGreatDoorG02
import Derived.Test.YtcoofnhdbejnpaaGreatDoorG20
import Derived.BigRegion
import Derived.Test.YtcoofnhdbejnpaaGreatDoorG13
import Derived.Test.YtcoofnhdbejnpaaGreatDoorG14
import Derived.StillTailTactics
import Derived.Deep.RegionHeld3
import Derived.BigQuiet
import Derived.Deep.QuietTactic
import Derived.Laws.MakeOwn
import Derived.Laws.AppendOwnNone
import Derived.Deep.LoopGhost
import Derived.Deep.CutBlock
import Derived.Test.YtcoofnhdbejnpaaGreatDoorG03
import Derived.Test.YtcoofnhdbejnpaaGreatDoorG17
namespace Go.Proofs.YtcoofnhdbejnpaaGreatDoor
open Go.RowKit
/-- the two blocks of cut: the answer's, and the query's -/
structure CW (w wr : World) (vb vk vf : Value) (tp fr : Int) : Prop where
  blk : wr.heap[w.heap.size + 1]? = some (.cells #[vb, vk, vf, .int .i64 tp, .int .i64 fr] 137 (0, 0))
  res : wr.heap[w.heap.size]? = some (.cells #[.slice none 0 0, .slice none 0 0, .slice none 0 0, .int .i64 0, .int .i64 0] 137 (0, 0))
  bel : Below w.heap.size w wr
theorem CW.start (w : World) : CW w ((w.alloc (.cells #[.slice none 0 0, .slice none 0 0, .slice none 0 0, .int .i64 0, .int .i64 0] 137)).alloc (.cells #[.slice none 0 0, .slice none 0 0, .slice none 0 0, .int .i64 (-1), .int .i64 0] 137)) (.slice none 0 0) (.slice none 0 0) (.slice none 0 0) (-1) 0 := by
  refine ⟨alloc_at (by simp), ?_, ((Below.refl _ _).alloc (Nat.le_refl _) _).alloc (by simp) _⟩
  rw [(((Below.refl (w.heap.size + 1) (w.alloc (.cells #[.slice none 0 0, .slice none 0 0, .slice none 0 0, .int .i64 0, .int .i64 0] 137))).alloc (by simp) _)).block _ (by omega)]
  exact alloc_at rfl
theorem CW.below {w wr w' : World} {vb vk vf : Value} {tp fr : Int} (h : CW w wr vb vk vf tp fr) (hb : Below wr.heap.size wr w') : CW w w' vb vk vf tp fr := by
  have h1 := (Array.getElem?_eq_some_iff.1 h.blk).1
  have h2 := (Array.getElem?_eq_some_iff.1 h.res).1
  exact ⟨by rw [hb.block _ h1]; exact h.blk, by rw [hb.block _ h2]; exact h.res, h.bel.trans (hb.mono h.bel.size)⟩
theorem CW.frozen {w wr : World} {vb vk vf : Value} {tp fr : Int} (h : CW w wr vb vk vf tp fr) (j : Nat) : wr.frozen? ⟨w.heap.size + 1, j, none⟩ = false := free_of_heap h.blk j
theorem CW.cell {w wr : World} {vb vk vf : Value} {tp fr : Int} (h : CW w wr vb vk vf tp fr) (j : Nat) : wr.cell? ⟨w.heap.size + 1, j, none⟩ = (#[vb, vk, vf, .int .i64 tp, .int .i64 fr] : Array Value)[j]? := cell_of_heap h.blk j
theorem CW.cells {w wr : World} {vb vk vf : Value} {tp fr : Int} (h : CW w wr vb vk vf tp fr) : wr.cell? ⟨w.heap.size + 1, 0, none⟩ = some vb ∧ wr.cell? ⟨w.heap.size + 1, 1, none⟩ = some vk ∧ wr.cell? ⟨w.heap.size + 1, 2, none⟩ = some vf ∧ wr.cell? ⟨w.heap.size + 1, 3, none⟩ = some (.int .i64 tp) ∧ wr.cell? ⟨w.heap.size + 1, 4, none⟩ = some (.int .i64 fr) := ⟨h.cell 0, h.cell 1, h.cell 2, h.cell 3, h.cell 4⟩
theorem CW.set {w wr : World} {vb vk vf : Value} {tp fr : Int} (h : CW w wr vb vk vf tp fr) (j : Nat) (v : Value) {vb' vk' vf' : Value} {tp' fr' : Int} (hc : (#[vb, vk, vf, .int .i64 tp, .int .i64 fr] : Array Value).setIfInBounds j v = #[vb', vk', vf', .int .i64 tp', .int .i64 fr']) : CW w (wr.setCell ⟨w.heap.size + 1, j, none⟩ v) vb' vk' vf' tp' fr' := by
  refine ⟨?_, ?_, h.bel.setCell (p := ⟨w.heap.size + 1, j, none⟩) (by simp) v⟩
  · simp [World.setCell, Array.getElem?_modify, h.blk, hc]
  · rw [Below.heap_setCell _ _ _ _ (by simp)]; exact h.res
theorem CW.drewN {w wr : World} {vb vk vf : Value} {tp fr : Int} (h : CW w wr vb vk vf tp fr) (n : Nat) : CW w (wr.drewN n) vb vk vf tp fr := ⟨h.blk, h.res, below_drewN h.bel n⟩
theorem own_sl {w : World} {B e size n : Nat} {v : Value} {xs : List Value} (h : w.ownsRow B e size v n xs) : ∃ ad n c, v = .slice ad n c := by
  rcases h.2 with ⟨h1, _⟩ | ⟨g, cap, cur, h1, _⟩
  · exact ⟨_, _, _, h1⟩
  · exact ⟨_, _, _, h1⟩
def SegsRd (w : World) (vals : List Value) (segs : List (List Pq.Tok)) : Prop := vals.length = segs.length ∧ ∀ j (h1 : j < vals.length) (h2 : j < segs.length), RdT w vals[j] segs[j]
theorem own_far {w w' : World} {B e size n r : Nat} {v : Value} {xs : List Value} (h : w.ownsRow B e size v n xs) (hr : r < B) (hf : ∀ k, k ≠ r → w'.heap[k]? = w.heap[k]?) : w'.ownsRow B e size v n xs := by
  refine ⟨h.1, ?_⟩
  rcases h.2 with h1 | ⟨g, cap, cur, h1, h2, h3, h4⟩
  · exact .inl h1
  · exact .inr ⟨g, cap, cur, h1, h2, by rw [hf g (by omega)]; exact h3, h4⟩
theorem set_far (w : World) (r j : Nat) (v : Value) (k : Nat) (h : k ≠ r) : (w.setCell ⟨r, j, none⟩ v).heap[k]? = w.heap[k]? := Below.heap_setCell _ _ _ _ h
theorem CW.push {w wr : World} {vb vk vf vf' : Value} {tp fr : Int} {n : Nat} {vals vals' : List Value} {o : Obj} {w6 : World} (h : CW w wr vb vk vf tp fr) (hown : wr.ownsRow (w.heap.size + 2) 134 1 vf n vals) (hg : (wr.alloc o).drew.grownBy w6 vf.ownBlock) (hown6 : w6.ownsRow (w.heap.size + 2) 134 1 vf' (n + 1) vals') :
    CW w w6 vb vk vf tp fr ∧ CW w (w6.setCell ⟨w.heap.size + 1, 2, none⟩ vf') vb vk vf' tp fr ∧ (w6.setCell ⟨w.heap.size + 1, 2, none⟩ vf').ownsRow (w.heap.size + 2) 134 1 vf' (n + 1) vals' := by
  have h1 := (Array.getElem?_eq_some_iff.1 h.blk).1
  have h2 := (Array.getElem?_eq_some_iff.1 h.res).1
  have hc : CW w (wr.alloc o).drew vb vk vf tp fr := (h.below ((Below.refl _ _).alloc (Nat.le_refl _) o)).drewN 1
  have hrow : ∀ k, vf.ownBlock = some k → w.heap.size + 2 ≤ k := by
    intro k hk
    rcases hown.2 with ⟨e, _⟩ | ⟨g, cap, cur, e, hb, _⟩
    · rw [e] at hk; cases hk
    · rw [e] at hk; cases hk; exact hb
  have hsz : wr.heap.size < (wr.alloc o).drew.heap.size := by simp
  have c6 : CW w w6 vb vk vf tp fr := by
    refine ⟨?_, ?_, ?_⟩
    · rw [hg.block _ (by omega) (fun e => by have := hrow _ e.symm; omega)]; exact hc.blk
    · rw [hg.block _ (by omega) (fun e => by have := hrow _ e.symm; omega)]; exact hc.res
    · exact hc.bel.grown hg (by have := hc.bel.size; omega) (fun k hk => by have := hrow k hk; omega)
  exact ⟨c6, c6.set 2 vf' rfl, own_far hown6 (by omega) (fun k hk => set_far _ _ _ _ k hk)⟩
end Go.Proofs.YtcoofnhdbejnpaaGreatDoor

/- Package panesref: Check. -/
namespace Go.Proofs.YtcoofnhdbejnpaaGreatDoor
open Go.RowKit
/-- the world of Check behind the cut: the answer's block, none's, the query's -/
structure QW (w wr : World) (b : Nat) (vb vk vf : Value) (tp fr : Int) : Prop where
  c : CW w wr (.slice none 0 0) (.slice none 0 0) (.slice none 0 0) 0 0
  q : wr.heap[b]? = some (.cells #[vb, vk, vf, .int .i64 tp, .int .i64 fr] 137 (0, 0))
  hb : w.heap.size + 2 ≤ b
theorem QW.below {w wr w' : World} {b : Nat} {vb vk vf : Value} {tp fr : Int} (h : QW w wr b vb vk vf tp fr) (hb : Below wr.heap.size wr w') : QW w w' b vb vk vf tp fr :=
  ⟨h.c.below hb, by rw [hb.block _ (Array.getElem?_eq_some_iff.1 h.q).1]; exact h.q, h.hb⟩
theorem QW.cells {w wr : World} {b : Nat} {vb vk vf : Value} {tp fr : Int} (h : QW w wr b vb vk vf tp fr) : wr.cell? ⟨b, 0, none⟩ = some vb ∧ wr.cell? ⟨b, 1, none⟩ = some vk ∧ wr.cell? ⟨b, 2, none⟩ = some vf ∧ wr.cell? ⟨b, 3, none⟩ = some (.int .i64 tp) ∧ wr.cell? ⟨b, 4, none⟩ = some (.int .i64 fr) := ⟨cell_of_heap h.q 0, cell_of_heap h.q 1, cell_of_heap h.q 2, cell_of_heap h.q 3, cell_of_heap h.q 4⟩
theorem SegsRd.below {w w' : World} {vals : List Value} {segs : List (List Pq.Tok)} (h : SegsRd w vals segs) (hb : Below w.heap.size w w') : SegsRd w' vals segs := ⟨h.1, fun j h1 h2 => (h.2 j h1 h2).below hb⟩
/-- behind a store into a block of queries -/
theorem RdT.far {w w' : World} {v : Value} {ts : List Pq.Tok} (h : RdT w v ts) {r : Nat} {cs : Array Value} (hr : w.heap[r]? = some (.cells cs 137 (0, 0))) (hf : ∀ k, k ≠ r → w'.heap[k]? = w.heap[k]?) : RdT w' v ts := by
  rcases h with h | ⟨g, off, cap, cur, h1, h2, h3, h4⟩
  · exact .inl h
  · refine .inr ⟨g, off, cap, cur, h1, h2, ?_, h4⟩
    rw [hf g (by rintro rfl; rw [hr] at h3; cases h3)]
    exact h3
theorem SegsRd.far {w w' : World} {vals : List Value} {segs : List (List Pq.Tok)} (h : SegsRd w vals segs) {r : Nat} {cs : Array Value} (hr : w.heap[r]? = some (.cells cs 137 (0, 0))) (hf : ∀ k, k ≠ r → w'.heap[k]? = w.heap[k]?) : SegsRd w' vals segs := ⟨h.1, fun j h1 h2 => (h.2 j h1 h2).far hr hf⟩
theorem RdT.form1 {w : World} {v : Value} {ts : List Pq.Tok} (h : RdT w v ts) (h0 : 0 < ts.length) : ∃ g off c, v = .slice (some ⟨g, off, none⟩) ts.length c := by
  rcases h with ⟨_, h⟩ | ⟨g, off, cap, cur, h, _⟩
  · rw [h] at h0; simp at h0
  · exact ⟨_, _, _, h⟩
theorem RdT.ne {w : World} {g off n cap r : Nat} {ts : List Pq.Tok} {cs : Array Value} (h : RdT w (.slice (some ⟨g, off, none⟩) n cap) ts) (hr : w.heap[r]? = some (.cells cs 137 (0, 0))) : g ≠ r := by
  rcases h with ⟨h, _⟩ | ⟨g', off', cap', cur, h, _, hg, _⟩
  · cases h
  · cases h
    rintro rfl
    rw [hr] at hg; cases hg
end Go.Proofs.YtcoofnhdbejnpaaGreatDoor

/- Lists of changes behind a slice. -/
namespace Go.Proofs.YtcoofnhdbejnpaaGreatDoor
open Go.RowKit
/-- a change's four cells -/
def rchg (c : Pv.Chg) : List Value := [.int .i64 c.1.1, .int .i64 c.1.2.1, .int .i64 c.1.2.2, .int .i64 c.2]
def rchgs (l : List Pv.Chg) : List Value := l.flatMap rchg
theorem rchgs_snoc (l : List Pv.Chg) (c : Pv.Chg) : rchgs (l ++ [c]) = rchgs l ++ rchg c := by simp [rchgs]
theorem rchgs_len (l : List Pv.Chg) : (rchgs l).length = l.length * 4 := by
  induction l with
  | nil => rfl
  | cons c l ih => simp only [rchgs, List.flatMap_cons, List.length_append, List.length_cons] at ih ⊢; rw [ih]; simp [rchg]; omega
theorem rchgs_get : ∀ (l : List Pv.Chg) (n : Nat) (h : n < l.length), (rchgs l)[n * 4]? = some (.int .i64 l[n].1.1) ∧ (rchgs l)[n * 4 + 1]? = some (.int .i64 l[n].1.2.1) ∧ (rchgs l)[n * 4 + 2]? = some (.int .i64 l[n].1.2.2) ∧ (rchgs l)[n * 4 + 3]? = some (.int .i64 l[n].2)
  | [], _, h => by simp at h
  | c :: l, 0, _ => by simp [rchgs, rchg]
  | c :: l, n + 1, h => by
    have ih := rchgs_get l n (by simpa using h)
    have e1 : (n + 1) * 4 = n * 4 + 4 := by omega
    simp only [rchgs, List.flatMap_cons, List.getElem_cons_succ] at ih ⊢
    have e : (rchg c).length = 4 := rfl
    rw [e1, List.getElem?_append_right (by omega), List.getElem?_append_right (by omega), List.getElem?_append_right (by omega), List.getElem?_append_right (by omega), e]
    have a0 : n * 4 + 4 - 4 = n * 4 := by omega
    have a1 : n * 4 + 4 + 1 - 4 = n * 4 + 1 := by omega
    have a2 : n * 4 + 4 + 2 - 4 = n * 4 + 2 := by omega
    have a3 : n * 4 + 4 + 3 - 4 = n * 4 + 3 := by omega
    rw [a0, a1, a2, a3]
    exact ih
theorem infoChg : (Tryz.prog.info? 50).map (fun i => (i.zero, i.size, i.bytes)) = some (some (.agg #[.int .i64 0, .int .i64 0, .int .i64 0, .int .i64 0]), 4, 32) := by kernel_rfl
/-- a list of changes can be read behind a slice -/
def RdC (w : World) (v : Value) (l : List Pv.Chg) : Prop :=
  (v = .slice none 0 0 ∧ l = []) ∨ ∃ g off cap cur fz, v = .slice (some ⟨g, off, none⟩) l.length cap ∧ l.length ≤ cap ∧ w.heap[g]? = some (.cells cur 50 fz) ∧ ∀ (j : Nat) (u : Value), (rchgs l)[j]? = some u → cur[off + j]? = some u
theorem RdC.cell {w : World} {g off n cap : Nat} {l : List Pv.Chg} (h : RdC w (.slice (some ⟨g, off, none⟩) n cap) l) (j : Nat) (hj : j < l.length) : w.cell? ⟨g, off + j * 4, none⟩ = some (.int .i64 l[j].1.1) ∧ w.cell? ⟨g, off + j * 4 + 1, none⟩ = some (.int .i64 l[j].1.2.1) ∧ w.cell? ⟨g, off + j * 4 + 2, none⟩ = some (.int .i64 l[j].1.2.2) ∧ w.cell? ⟨g, off + j * 4 + 3, none⟩ = some (.int .i64 l[j].2) := by
  rcases h with ⟨h, _⟩ | ⟨g', off', cap', cur, fz, h, _, hg, hc⟩
  · cases h
  · cases h
    obtain ⟨h0, h1, h2, h3⟩ := rchgs_get l j hj
    simp only [World.cell?, hg]
    refine ⟨hc _ _ h0, ?_, ?_, ?_⟩
    · rw [Nat.add_assoc]; exact hc _ _ h1
    · rw [Nat.add_assoc]; exact hc _ _ h2
    · rw [Nat.add_assoc]; exact hc _ _ h3
theorem RdC.ofOwn {w : World} {B n : Nat} {v : Value} {l : List Pv.Chg} (h : w.ownsRow B 50 4 v n (rchgs l)) : RdC w v l := by
  have hl := h.1
  rw [rchgs_len] at hl
  have hn : l.length = n := by omega
  subst hn
  rcases h.2 with ⟨h1, h2⟩ | ⟨g, cap, cur, h1, h2, h3, h4, h5, h6, h7⟩
  · exact .inl ⟨h1, List.eq_nil_of_length_eq_zero h2⟩
  · refine .inr ⟨g, 0, cap, cur, (0, 0), h1, h4, h3, fun j u hu => ?_⟩
    rw [← h7] at hu
    rw [List.getElem?_take] at hu
    split at hu
    · simpa using hu
    · cases hu
theorem RdC.below {w w' : World} {v : Value} {l : List Pv.Chg} (h : RdC w v l) (hb : Below w.heap.size w w') : RdC w' v l := by
  rcases h with h | ⟨g, off, cap, cur, fz, h1, h2, h3, h4⟩
  · exact .inl h
  · refine .inr ⟨g, off, cap, cur, fz, h1, h2, ?_, h4⟩
    rw [hb.block g (by rcases Nat.lt_or_ge g w.heap.size with h | h; exact h; rw [Array.getElem?_eq_none h] at h3; cases h3)]
    exact h3
theorem RdC.form {w : World} {v : Value} {l : List Pv.Chg} (h : RdC w v l) : (v = .slice none 0 0 ∧ l = []) ∨ ∃ g off cap, v = .slice (some ⟨g, off, none⟩) l.length cap ∧ l.length ≤ cap := by
  rcases h with h | ⟨g, off, cap, cur, fz, h, h2, _⟩
  · exact .inl h
  · exact .inr ⟨g, off, cap, h, h2⟩
end Go.Proofs.YtcoofnhdbejnpaaGreatDoor

/- Package panesref: what a query's value reads as; before, mates, ahead. -/
namespace Go.Proofs.YtcoofnhdbejnpaaGreatDoor
open Go.RowKit
/-- a list of slices can be read behind a slice -/
def RdL (w : World) (v : Value) (vals : List Value) : Prop :=
  (v = .slice none 0 0 ∧ vals = []) ∨ ∃ g off cap cur fz, v = .slice (some ⟨g, off, none⟩) vals.length cap ∧ vals.length ≤ cap ∧ w.heap[g]? = some (.cells cur 134 fz) ∧ ∀ (j : Nat) (u : Value), vals[j]? = some u → cur[off + j]? = some u
theorem RdL.below {w w' : World} {v : Value} {l : List Value} (h : RdL w v l) (hb : Below w.heap.size w w') : RdL w' v l := by
  rcases h with h | ⟨g, off, cap, cur, fz, h1, h2, h3, h4⟩
  · exact .inl h
  · refine .inr ⟨g, off, cap, cur, fz, h1, h2, ?_, h4⟩
    rw [hb.block g (by rcases Nat.lt_or_ge g w.heap.size with h | h; exact h; rw [Array.getElem?_eq_none h] at h3; cases h3)]
    exact h3
theorem RdL.ofOwn {w : World} {B n : Nat} {v : Value} {l : List Value} (h : w.ownsRow B 134 1 v n l) : RdL w v l := by
  have hl := h.1
  have hn : l.length = n := by omega
  subst hn
  rcases h.2 with ⟨h1, h2⟩ | ⟨g, cap, cur, h1, h2, h3, h4, h5, h6, h7⟩
  · exact .inl ⟨h1, List.eq_nil_of_length_eq_zero h2⟩
  · refine .inr ⟨g, 0, cap, cur, (0, 0), h1, h4, h3, fun j u hu => ?_⟩
    rw [← h7] at hu
    rw [List.getElem?_take] at hu
    split at hu
    · simpa using hu
    · cases hu
theorem RdL.cell {w : World} {g off n cap : Nat} {l : List Value} (h : RdL w (.slice (some ⟨g, off, none⟩) n cap) l) (j : Nat) (hj : j < l.length) : w.cell? ⟨g, off + j, none⟩ = some l[j] := by
  rcases h with ⟨h, _⟩ | ⟨g', off', cap', cur, fz, h, _, hg, hc⟩
  · cases h
  · cases h
    simp only [World.cell?, hg]
    exact hc _ _ (List.getElem?_eq_getElem hj)
/-- a query's value: what it reads as -/
def QRd (w : World) (q : Value) (bl kl : List Pq.Tok) (segs : List (List Pq.Tok)) (tp fr : Int) : Prop :=
  ∃ xb nb cb xk nk ck xf nf cf vals, q = .agg #[.slice xb nb cb, .slice xk nk ck, .slice xf nf cf, .int .i64 tp, .int .i64 fr] ∧ RdT w (.slice xb nb cb) bl ∧ RdT w (.slice xk nk ck) kl ∧ RdL w (.slice xf nf cf) vals ∧ SegsRd w vals segs
theorem QRd.below {w w' : World} {q : Value} {bl kl : List Pq.Tok} {segs : List (List Pq.Tok)} {tp fr : Int} (h : QRd w q bl kl segs tp fr) (hb : Below w.heap.size w w') : QRd w' q bl kl segs tp fr := by
  obtain ⟨xb, nb, cb, xk, nk, ck, xf, nf, cf, vals, h1, h2, h3, h4, h5⟩ := h
  exact ⟨xb, nb, cb, xk, nk, ck, xf, nf, cf, vals, h1, h2.below hb, h3.below hb, h4.below hb, h5.below hb⟩
theorem undrew {w w3 : World} (b : Below w.drew.heap.size w.drew w3) : Below w.heap.size w w3 := ⟨b.os, b.tape, b.output, b.size, b.block⟩
/-- the blocks of a query and of two rows -/
structure B3 (w w0 : World) (vb vk vf : Value) (tp fr p u v p' u' v' : Int) : Prop where
  q : w0.heap[w.heap.size]? = some (.cells #[vb, vk, vf, .int .i64 tp, .int .i64 fr] 137 (0, 0))
  a : w0.heap[w.heap.size + 1]? = some (.cells #[.int .i64 p, .int .i64 u, .int .i64 v] 48 (0, 0))
  b : w0.heap[w.heap.size + 2]? = some (.cells #[.int .i64 p', .int .i64 u', .int .i64 v'] 48 (0, 0))
  bl : Below w.heap.size w w0
theorem B3.start (w : World) (vb vk vf : Value) (tp fr p u v p' u' v' : Int) : B3 w (((w.alloc (.cells #[vb, vk, vf, .int .i64 tp, .int .i64 fr] 137)).alloc (.cells #[.int .i64 p, .int .i64 u, .int .i64 v] 48)).alloc (.cells #[.int .i64 p', .int .i64 u', .int .i64 v'] 48)) vb vk vf tp fr p u v p' u' v' := by
  refine ⟨?_, ?_, alloc_at (by simp), (((Below.refl _ _).alloc (Nat.le_refl _) _).alloc (by simp) _).alloc (by simp; omega) _⟩
  · rw [((Below.refl (w.heap.size + 2) ((w.alloc (.cells #[vb, vk, vf, .int .i64 tp, .int .i64 fr] 137)).alloc (.cells #[.int .i64 p, .int .i64 u, .int .i64 v] 48))).alloc (by simp) _).block _ (by omega),
      ((Below.refl (w.heap.size + 1) (w.alloc (.cells #[vb, vk, vf, .int .i64 tp, .int .i64 fr] 137))).alloc (by simp) _).block _ (by omega)]
    exact alloc_at rfl
  · rw [((Below.refl (w.heap.size + 2) ((w.alloc (.cells #[vb, vk, vf, .int .i64 tp, .int .i64 fr] 137)).alloc (.cells #[.int .i64 p, .int .i64 u, .int .i64 v] 48))).alloc (by simp) _).block _ (by omega)]
    exact alloc_at (by simp)
theorem B3.below {w w0 w1 : World} {vb vk vf : Value} {tp fr p u v p' u' v' : Int} (h : B3 w w0 vb vk vf tp fr p u v p' u' v') (hb : Below w0.heap.size w0 w1) : B3 w w1 vb vk vf tp fr p u v p' u' v' :=
  ⟨by rw [hb.block _ (Array.getElem?_eq_some_iff.1 h.q).1]; exact h.q, by rw [hb.block _ (Array.getElem?_eq_some_iff.1 h.a).1]; exact h.a, by rw [hb.block _ (Array.getElem?_eq_some_iff.1 h.b).1]; exact h.b, h.bl.trans (hb.mono h.bl.size)⟩
theorem B3.cells {w w0 : World} {vb vk vf : Value} {tp fr p u v p' u' v' : Int} (h : B3 w w0 vb vk vf tp fr p u v p' u' v') : w0.cell? ⟨w.heap.size, 0, none⟩ = some vb ∧ w0.cell? ⟨w.heap.size, 1, none⟩ = some vk ∧ w0.cell? ⟨w.heap.size, 2, none⟩ = some vf ∧ w0.cell? ⟨w.heap.size, 3, none⟩ = some (.int .i64 tp) ∧ w0.cell? ⟨w.heap.size, 4, none⟩ = some (.int .i64 fr) ∧ w0.cell? ⟨w.heap.size + 1, 0, none⟩ = some (.int .i64 p) ∧ w0.cell? ⟨w.heap.size + 1, 1, none⟩ = some (.int .i64 u) ∧ w0.cell? ⟨w.heap.size + 1, 2, none⟩ = some (.int .i64 v) ∧ w0.cell? ⟨w.heap.size + 1 + 1, 0, none⟩ = some (.int .i64 p') ∧ w0.cell? ⟨w.heap.size + 1 + 1, 1, none⟩ = some (.int .i64 u') ∧ w0.cell? ⟨w.heap.size + 1 + 1, 2, none⟩ = some (.int .i64 v') :=
  ⟨cell_of_heap h.q 0, cell_of_heap h.q 1, cell_of_heap h.q 2, cell_of_heap h.q 3, cell_of_heap h.q 4, cell_of_heap h.a 0, cell_of_heap h.a 1, cell_of_heap h.a 2, cell_of_heap h.b 0, cell_of_heap h.b 1, cell_of_heap h.b 2⟩
end Go.Proofs.YtcoofnhdbejnpaaGreatDoor

/- Package panesref: mates, ahead. -/
namespace Go.Proofs.YtcoofnhdbejnpaaGreatDoor
open Go.RowKit
theorem below_drew0 (w : World) : Below w.heap.size w w.drew := ⟨rfl, rfl, rfl, Nat.le_refl _, fun _ _ => rfl⟩
theorem below_drewM {B : Nat} {a w : World} (h : Below B a w) (k : Nat) : Below B a (w.drewN k) := ⟨h.os, h.tape, h.output, h.size, h.block⟩
end Go.Proofs.YtcoofnhdbejnpaaGreatDoor

/- Package panesref: ahead. -/
namespace Go.Proofs.YtcoofnhdbejnpaaGreatDoor
open Go.RowKit
/-- three blocks that a call has made of its arguments -/
structure K3 (w w0 : World) (c1 : Array Value) (t1 : Nat) (c2 : Array Value) (t2 : Nat) (c3 : Array Value) (t3 : Nat) : Prop where
  a : w0.heap[w.heap.size]? = some (.cells c1 t1 (0, 0))
  b : w0.heap[w.heap.size + 1]? = some (.cells c2 t2 (0, 0))
  c : w0.heap[w.heap.size + 1 + 1]? = some (.cells c3 t3 (0, 0))
  bl : Below w.heap.size w w0
theorem K3.start (w : World) (c1 : Array Value) (t1 : Nat) (c2 : Array Value) (t2 : Nat) (c3 : Array Value) (t3 : Nat) : K3 w (((w.alloc (.cells c1 t1)).alloc (.cells c2 t2)).alloc (.cells c3 t3)) c1 t1 c2 t2 c3 t3 := by
  refine ⟨?_, ?_, alloc_at (by simp), (((Below.refl _ _).alloc (Nat.le_refl _) _).alloc (by simp) _).alloc (by simp; omega) _⟩
  · rw [((Below.refl (w.heap.size + 2) ((w.alloc (.cells c1 t1)).alloc (.cells c2 t2))).alloc (by simp) _).block _ (by omega),
      ((Below.refl (w.heap.size + 1) (w.alloc (.cells c1 t1))).alloc (by simp) _).block _ (by omega)]
    exact alloc_at rfl
  · rw [((Below.refl (w.heap.size + 2) ((w.alloc (.cells c1 t1)).alloc (.cells c2 t2))).alloc (by simp) _).block _ (by omega)]
    exact alloc_at (by simp)
theorem K3.below {w w0 w1 : World} {c1 c2 c3 : Array Value} {t1 t2 t3 : Nat} (h : K3 w w0 c1 t1 c2 t2 c3 t3) (hb : Below w0.heap.size w0 w1) : K3 w w1 c1 t1 c2 t2 c3 t3 :=
  ⟨by rw [hb.block _ (Array.getElem?_eq_some_iff.1 h.a).1]; exact h.a, by rw [hb.block _ (Array.getElem?_eq_some_iff.1 h.b).1]; exact h.b, by rw [hb.block _ (Array.getElem?_eq_some_iff.1 h.c).1]; exact h.c, h.bl.trans (hb.mono h.bl.size)⟩
end Go.Proofs.YtcoofnhdbejnpaaGreatDoor

/- Lists of changes: a new one, and a change laid into it. -/
namespace Go.Proofs.YtcoofnhdbejnpaaGreatDoor
open Go.RowKit
theorem rchgs_set : ∀ (l : List Pv.Chg) (j : Nat) (c : Pv.Chg), j < l.length → rchgs (l.set j c) = ((((rchgs l).set (j * 4) (.int .i64 c.1.1)).set (j * 4 + 1) (.int .i64 c.1.2.1)).set (j * 4 + 2) (.int .i64 c.1.2.2)).set (j * 4 + 3) (.int .i64 c.2)
  | [], _, _, h => by simp at h
  | d :: l, 0, c, _ => by simp [rchgs, rchg]
  | d :: l, j + 1, c, h => by
    have ih := rchgs_set l j c (by simpa using h)
    have e : (j + 1) * 4 = j * 4 + 4 := by omega
    rw [List.set_cons_succ]
    show rchg d ++ rchgs (l.set j c) = _
    rw [ih, e]
    simp [rchgs, rchg]
theorem own_free {w : World} {B g cap n : Nat} {xs : List Value} (h : w.ownsRow B 50 4 (.slice (some ⟨g, 0, none⟩) n cap) n xs) (j : Nat) : w.frozen? ⟨g, j, none⟩ = false := by
  rcases h.2 with ⟨h1, _⟩ | ⟨g', cap', cur, h1, h2, h3, _⟩
  · cases h1
  · cases h1; exact free_of_heap h3 j
end Go.Proofs.YtcoofnhdbejnpaaGreatDoor

/- Package panesref: Table. -/
namespace Go.Proofs.YtcoofnhdbejnpaaGreatDoor
open Go.RowKit
theorem own_base2 {w : World} {B B' e size n : Nat} {v : Value} {xs : List Value} (h : w.ownsRow B e size v n xs) (hB : B' ≤ B) : w.ownsRow B' e size v n xs := by
  refine ⟨h.1, ?_⟩
  rcases h.2 with h1 | ⟨g, cap, cur, h1, h2, h3, h4⟩
  · exact .inl h1
  · exact .inr ⟨g, cap, cur, h1, by omega, h3, h4⟩
end Go.Proofs.YtcoofnhdbejnpaaGreatDoor

/- Rows of cells behind a slice, in general; lists of copies. -/
namespace Go.Proofs.YtcoofnhdbejnpaaGreatDoor
open Go.RowKit
/-- n things of sz cells each can be read behind a slice -/
def RdG (T sz : Nat) (w : World) (v : Value) (n : Nat) (cs : List Value) : Prop :=
  cs.length = n * sz ∧ ((v = .slice none 0 0 ∧ n = 0) ∨ ∃ g off cap cur fz, v = .slice (some ⟨g, off, none⟩) n cap ∧ n ≤ cap ∧ w.heap[g]? = some (.cells cur T fz) ∧ ∀ (j : Nat) (u : Value), cs[j]? = some u → cur[off + j]? = some u)
theorem RdG.below {T sz : Nat} {w w' : World} {v : Value} {n : Nat} {cs : List Value} (h : RdG T sz w v n cs) (hb : Below w.heap.size w w') : RdG T sz w' v n cs := by
  refine ⟨h.1, ?_⟩
  rcases h.2 with h | ⟨g, off, cap, cur, fz, h1, h2, h3, h4⟩
  · exact .inl h
  · refine .inr ⟨g, off, cap, cur, fz, h1, h2, ?_, h4⟩
    rw [hb.block g (by rcases Nat.lt_or_ge g w.heap.size with h | h; exact h; rw [Array.getElem?_eq_none h] at h3; cases h3)]
    exact h3
theorem RdG.ofOwn {T sz : Nat} {w : World} {B n : Nat} {v : Value} {cs : List Value} (h : w.ownsRow B T sz v n cs) : RdG T sz w v n cs := by
  refine ⟨h.1, ?_⟩
  rcases h.2 with ⟨h1, h2⟩ | ⟨g, cap, cur, h1, h2, h3, h4, h5, h6, h7⟩
  · exact .inl ⟨h1, h2⟩
  · refine .inr ⟨g, 0, cap, cur, (0, 0), h1, h4, h3, fun j u hu => ?_⟩
    rw [← h7] at hu
    rw [List.getElem?_take] at hu
    split at hu
    · simpa using hu
    · cases hu
theorem RdG.cell {T sz : Nat} {w : World} {g off n m cap : Nat} {cs : List Value} (h : RdG T sz w (.slice (some ⟨g, off, none⟩) n cap) m cs) (j : Nat) (u : Value) (hu : cs[j]? = some u) : w.cell? ⟨g, off + j, none⟩ = some u := by
  rcases h.2 with ⟨h, _⟩ | ⟨g', off', cap', cur, fz, h, _, hg, hc⟩
  · cases h
  · cases h
    simp only [World.cell?, hg]
    exact hc _ _ hu
theorem RdG.form {T sz : Nat} {w : World} {v : Value} {n : Nat} {cs : List Value} (h : RdG T sz w v n cs) : (v = .slice none 0 0 ∧ n = 0) ∨ ∃ g off cap, v = .slice (some ⟨g, off, none⟩) n cap ∧ n ≤ cap := by
  rcases h.2 with h | ⟨g, off, cap, cur, fz, h, h2, _⟩
  · exact .inl h
  · exact .inr ⟨g, off, cap, h, h2⟩
theorem RdG.len {T sz : Nat} {w : World} {a : Option Addr} {n c m : Nat} {cs : List Value} (h : RdG T sz w (.slice a n c) m cs) : n = m := by
  rcases h.form with ⟨h, e⟩ | ⟨g, off, cap, h, _⟩
  · cases h; rw [e]
  · cases h; rfl
theorem RdG.sl {T sz : Nat} {w : World} {v : Value} {n : Nat} {cs : List Value} (h : RdG T sz w v n cs) : ∃ a c, v = .slice a n c := by
  rcases h.form with ⟨h, e⟩ | ⟨g, off, cap, h, _⟩
  · exact ⟨none, 0, by rw [h, e]⟩
  · exact ⟨_, _, h⟩
theorem RdG.form1 {T sz : Nat} {w : World} {v : Value} {n : Nat} {cs : List Value} (h : RdG T sz w v n cs) (h0 : 0 < n) : ∃ g off c, v = .slice (some ⟨g, off, none⟩) n c ∧ n ≤ c := by
  rcases h.form with ⟨_, h⟩ | h
  · omega
  · exact h
/-- copies as changes: their cells -/
def toC (l : List Pv.Cpy) : List Pv.Chg := l.map (fun c => (c.1, (c.2 : Int)))
theorem toC_len (l : List Pv.Cpy) : (toC l).length = l.length := by simp [toC]
/-- copies can be read behind a slice -/
def RdP (w : World) (v : Value) (l : List Pv.Cpy) : Prop := RdG 192 4 w v l.length (rchgs (toC l))
theorem RdP.below {w w' : World} {v : Value} {l : List Pv.Cpy} (h : RdP w v l) (hb : Below w.heap.size w w') : RdP w' v l := RdG.below h hb
theorem RdP.cell {w : World} {g off n cap : Nat} {l : List Pv.Cpy} (h : RdP w (.slice (some ⟨g, off, none⟩) n cap) l) (j : Nat) (hj : j < l.length) : w.cell? ⟨g, off + j * 4, none⟩ = some (.int .i64 l[j].1.1) ∧ w.cell? ⟨g, off + j * 4 + 1, none⟩ = some (.int .i64 l[j].1.2.1) ∧ w.cell? ⟨g, off + j * 4 + 2, none⟩ = some (.int .i64 l[j].1.2.2) ∧ w.cell? ⟨g, off + j * 4 + 3, none⟩ = some (.int .i64 (l[j].2 : Int)) := by
  obtain ⟨h0, h1, h2, h3⟩ := rchgs_get (toC l) j (by rw [toC_len]; exact hj)
  simp only [toC, List.getElem_map] at h0 h1 h2 h3
  refine ⟨RdG.cell h _ _ h0, ?_, ?_, ?_⟩
  · rw [Nat.add_assoc]; exact RdG.cell h _ _ h1
  · rw [Nat.add_assoc]; exact RdG.cell h _ _ h2
  · rw [Nat.add_assoc]; exact RdG.cell h _ _ h3
theorem RdP.ofOwn {w : World} {B n : Nat} {v : Value} {l : List Pv.Cpy} (h : w.ownsRow B 192 4 v n (rchgs (toC l))) : RdP w v l := by
  have hl := h.1
  rw [rchgs_len, toC_len] at hl
  have hn : l.length = n := by omega
  subst hn
  exact RdG.ofOwn h
/-- four stores lay a thing of four cells into a row -/
theorem own_set4G {T : Nat} {w : World} {B g cap n : Nat} {l : List Pv.Chg} (h : w.ownsRow B T 4 (.slice (some ⟨g, 0, none⟩) n cap) n (rchgs l)) (j : Nat) (hj : j < l.length) (c : Pv.Chg) :
    ((((w.setCell ⟨g, j * 4, none⟩ (.int .i64 c.1.1)).setCell ⟨g, j * 4 + 1, none⟩ (.int .i64 c.1.2.1)).setCell ⟨g, j * 4 + 2, none⟩ (.int .i64 c.1.2.2)).setCell ⟨g, j * 4 + 3, none⟩ (.int .i64 c.2)).ownsRow B T 4 (.slice (some ⟨g, 0, none⟩) n cap) n (rchgs (l.set j c)) := by
  have hl := h.1
  rw [rchgs_len] at hl
  refine ⟨by rw [rchgs_len, List.length_set]; exact hl, ?_⟩
  rcases h.2 with ⟨h1, _⟩ | ⟨g', cap', cur, h1, h2, h3, h4, h5, h6, h7⟩
  · cases h1
  · cases h1
    refine .inr ⟨g, cap, (((cur.setIfInBounds (j * 4) (.int .i64 c.1.1)).setIfInBounds (j * 4 + 1) (.int .i64 c.1.2.1)).setIfInBounds (j * 4 + 2) (.int .i64 c.1.2.2)).setIfInBounds (j * 4 + 3) (.int .i64 c.2), rfl, h2, ?_, h4, h5, by simpa using h6, ?_⟩
    · simp [World.setCell, Array.getElem?_modify, h3]
    · rw [rchgs_set l j c hj, ← h7]
      simp only [Array.toList_setIfInBounds]
      rw [List.take_set, List.take_set, List.take_set, List.take_set]
theorem own_freeG {T sz : Nat} {w : World} {B g cap n : Nat} {xs : List Value} (h : w.ownsRow B T sz (.slice (some ⟨g, 0, none⟩) n cap) n xs) (j : Nat) : w.frozen? ⟨g, j, none⟩ = false := by
  rcases h.2 with ⟨h1, _⟩ | ⟨g', cap', cur, h1, h2, h3, _⟩
  · cases h1
  · cases h1; exact free_of_heap h3 j
end Go.Proofs.YtcoofnhdbejnpaaGreatDoor

/- Package panesref: line. -/
namespace Go.Proofs.YtcoofnhdbejnpaaGreatDoor
open Go.RowKit
/-- two blocks that a call has made of its arguments -/
structure K2 (w w0 : World) (c1 : Array Value) (t1 : Nat) (c2 : Array Value) (t2 : Nat) : Prop where
  a : w0.heap[w.heap.size]? = some (.cells c1 t1 (0, 0))
  b : w0.heap[w.heap.size + 1]? = some (.cells c2 t2 (0, 0))
  bl : Below w.heap.size w w0
theorem K2.start (w : World) (c1 : Array Value) (t1 : Nat) (c2 : Array Value) (t2 : Nat) : K2 w ((w.alloc (.cells c1 t1)).alloc (.cells c2 t2)) c1 t1 c2 t2 := by
  refine ⟨?_, alloc_at (by simp), (((Below.refl _ _).alloc (Nat.le_refl _) _).alloc (by simp) _)⟩
  rw [((Below.refl (w.heap.size + 1) (w.alloc (.cells c1 t1))).alloc (by simp) _).block _ (by omega)]
  exact alloc_at rfl
theorem K2.below {w w0 w1 : World} {c1 c2 : Array Value} {t1 t2 : Nat} (h : K2 w w0 c1 t1 c2 t2) (hb : Below w0.heap.size w0 w1) : K2 w w1 c1 t1 c2 t2 :=
  ⟨by rw [hb.block _ (Array.getElem?_eq_some_iff.1 h.a).1]; exact h.a, by rw [hb.block _ (Array.getElem?_eq_some_iff.1 h.b).1]; exact h.b, h.bl.trans (hb.mono h.bl.size)⟩
theorem K2.size {w w0 : World} {c1 c2 : Array Value} {t1 t2 : Nat} (h : K2 w w0 c1 t1 c2 t2) : w.heap.size + 1 < w0.heap.size := (Array.getElem?_eq_some_iff.1 h.b).1
theorem RdC.lenC {w : World} {a : Option Addr} {n c : Nat} {l : List Pv.Chg} (h : RdC w (.slice a n c) l) : n = l.length := by
  rcases h.form with ⟨h, e⟩ | ⟨g, off, cap, h, _⟩
  · cases h; rw [e]; rfl
  · cases h; rfl
theorem below_dB {B : Nat} {w wr : World} (h : Below B w wr) : Below B w wr.drew := ⟨h.os, h.tape, h.output, h.size, h.block⟩
theorem below_d {w wr : World} (h : Below w.heap.size w wr) : Below w.heap.size w wr.drew := ⟨h.os, h.tape, h.output, h.size, h.block⟩
end Go.Proofs.YtcoofnhdbejnpaaGreatDoor

/- Package panesref: within. -/
namespace Go.Proofs.YtcoofnhdbejnpaaGreatDoor
open Go.RowKit
/-- a block that a call has made of an argument -/
structure K1 (w w0 : World) (c1 : Array Value) (t1 : Nat) : Prop where
  a : w0.heap[w.heap.size]? = some (.cells c1 t1 (0, 0))
  bl : Below w.heap.size w w0
theorem K1.start (w : World) (c1 : Array Value) (t1 : Nat) : K1 w (w.alloc (.cells c1 t1)) c1 t1 := ⟨alloc_at rfl, (Below.refl _ _).alloc (Nat.le_refl _) _⟩
theorem K1.below {w w0 w1 : World} {c1 : Array Value} {t1 : Nat} (h : K1 w w0 c1 t1) (hb : Below w0.heap.size w0 w1) : K1 w w1 c1 t1 :=
  ⟨by rw [hb.block _ (Array.getElem?_eq_some_iff.1 h.a).1]; exact h.a, h.bl.trans (hb.mono h.bl.size)⟩
theorem K1.size {w w0 : World} {c1 : Array Value} {t1 : Nat} (h : K1 w w0 c1 t1) : w.heap.size < w0.heap.size := (Array.getElem?_eq_some_iff.1 h.a).1
def Blk (w : World) (b : Nat) (cs : Array Value) (t : Nat) : Prop := w.heap[b]? = some (.cells cs t (0, 0))
theorem Blk.below {w w' : World} {b : Nat} {cs : Array Value} {t : Nat} (h : Blk w b cs t) (hb : Below w.heap.size w w') : Blk w' b cs t := by
  unfold Blk; rw [hb.block _ (Array.getElem?_eq_some_iff.1 h).1]; exact h
theorem Blk.cell {w : World} {b : Nat} {cs : Array Value} {t : Nat} (h : Blk w b cs t) (j : Nat) : w.cell? ⟨b, j, none⟩ = cs[j]? := cell_of_heap h j
end Go.Proofs.YtcoofnhdbejnpaaGreatDoor

