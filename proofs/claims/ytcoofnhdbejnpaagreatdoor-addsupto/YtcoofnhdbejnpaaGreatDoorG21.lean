/- Package panesref: ahead. -/
import Derived.Test.YtcoofnhdbejnpaaGreatDoorG20
import Derived.Laws.MakeOwn
import Derived.Laws.AppendOwnNone
import Derived.Deep.LoopGhost
import Derived.Deep.CutBlock
import Derived.BigQuiet
import Derived.Deep.QuietTactic
import Derived.Test.YtcoofnhdbejnpaaGreatDoorG03
import Derived.Test.YtcoofnhdbejnpaaGreatDoorG17
import Derived.Test.YtcoofnhdbejnpaaGreatDoorG18
import Derived.Test.YtcoofnhdbejnpaaGreatDoorG02
import Derived.Test.YtcoofnhdbejnpaaGreatDoorG08
namespace Go.Proofs.YtcoofnhdbejnpaaGreatDoor
open Go.RowKit
/-- three blocks that a call has made of its arguments -/
structure K3 (w w0 : World) (c1 : Array Value) (t1 : Nat) (c2 : Array Value) (t2 : Nat) (c3 : Array Value) (t3 : Nat) : Prop where
  a : w0.heap[w.heap.size]? = some (.cells c1 t1 (0, 0))
  b : w0.heap[w.heap.size + 1]? = some (.cells c2 t2 (0, 0))
  c : w0.heap[w.heap.size + 1 + 1]? = some (.cells c3 t3 (0, 0))
  bl : Below w.heap.size w w0
theorem K3.start (w : World) (c1 : Array Value) (t1 : Nat) (c2 : Array Value) (t2 : Nat) (c3 : Array Value) (t3 : Nat) : K3 w (((w.alloc (.cells c1 t1)).alloc (.cells c2 t2)).alloc (.cells c3 t3)) c1 t1 c2 t2 c3 t3 := by
  refine ⟨?_, ?_, alloc_at (by simp), (((Below.refl _ _).alloc (Nat.le_refl _) _).alloc (by simp) _).alloc (by simp; omega) _⟩
  · rw [((Below.refl (w.heap.size + 2) ((w.alloc (.cells c1 t1)).alloc (.cells c2 t2))).alloc (by simp) _).block _ (by omega),
      ((Below.refl (w.heap.size + 1) (w.alloc (.cells c1 t1))).alloc (by simp) _).block _ (by omega)]
    exact alloc_at rfl
  · rw [((Below.refl (w.heap.size + 2) ((w.alloc (.cells c1 t1)).alloc (.cells c2 t2))).alloc (by simp) _).block _ (by omega)]
    exact alloc_at (by simp)
end Go.Proofs.YtcoofnhdbejnpaaGreatDoor

/- Lists of changes: a new one, and a change laid into it. -/
namespace Go.Proofs.YtcoofnhdbejnpaaGreatDoor
open Go.RowKit
theorem rchgs_set : ∀ (l : List Pv.Chg) (j : Nat) (c : Pv.Chg), j < l.length → rchgs (l.set j c) = ((((rchgs l).set (j * 4) (.int .i64 c.1.1)).set (j * 4 + 1) (.int .i64 c.1.2.1)).set (j * 4 + 2) (.int .i64 c.1.2.2)).set (j * 4 + 3) (.int .i64 c.2)
  | [], _, _, h => by simp at h
  | d :: l, 0, c, _ => by simp [rchgs, rchg]
  | d :: l, j + 1, c, h => by
    have ih := rchgs_set l j c (by simpa using h)
    have e : (j + 1) * 4 = j * 4 + 4 := by omega
    rw [List.set_cons_succ]
    show rchg d ++ rchgs (l.set j c) = _
    rw [ih, e]
    simp [rchgs, rchg]
theorem own_free {w : World} {B g cap n : Nat} {xs : List Value} (h : w.ownsRow B 50 4 (.slice (some ⟨g, 0, none⟩) n cap) n xs) (j : Nat) : w.frozen? ⟨g, j, none⟩ = false := by
  rcases h.2 with ⟨h1, _⟩ | ⟨g', cap', cur, h1, h2, h3, _⟩
  · cases h1
  · cases h1; exact free_of_heap h3 j
end Go.Proofs.YtcoofnhdbejnpaaGreatDoor

/- Package panesref: Table. -/
namespace Go.Proofs.YtcoofnhdbejnpaaGreatDoor
open Go.RowKit
theorem own_base2 {w : World} {B B' e size n : Nat} {v : Value} {xs : List Value} (h : w.ownsRow B e size v n xs) (hB : B' ≤ B) : w.ownsRow B' e size v n xs := by
  refine ⟨h.1, ?_⟩
  rcases h.2 with h1 | ⟨g, cap, cur, h1, h2, h3, h4⟩
  · exact .inl h1
  · exact .inr ⟨g, cap, cur, h1, by omega, h3, h4⟩
end Go.Proofs.YtcoofnhdbejnpaaGreatDoor

/- Rows of cells behind a slice, in general; lists of copies. -/
namespace Go.Proofs.YtcoofnhdbejnpaaGreatDoor
open Go.RowKit
/-- n things of sz cells each can be read behind a slice -/
def RdG (T sz : Nat) (w : World) (v : Value) (n : Nat) (cs : List Value) : Prop :=
  cs.length = n * sz ∧ ((v = .slice none 0 0 ∧ n = 0) ∨ ∃ g off cap cur fz, v = .slice (some ⟨g, off, none⟩) n cap ∧ n ≤ cap ∧ w.heap[g]? = some (.cells cur T fz) ∧ ∀ (j : Nat) (u : Value), cs[j]? = some u → cur[off + j]? = some u)
theorem RdG.below {T sz : Nat} {w w' : World} {v : Value} {n : Nat} {cs : List Value} (h : RdG T sz w v n cs) (hb : Below w.heap.size w w') : RdG T sz w' v n cs := by
  refine ⟨h.1, ?_⟩
  rcases h.2 with h | ⟨g, off, cap, cur, fz, h1, h2, h3, h4⟩
  · exact .inl h
  · refine .inr ⟨g, off, cap, cur, fz, h1, h2, ?_, h4⟩
    rw [hb.block g (by rcases Nat.lt_or_ge g w.heap.size with h | h; exact h; rw [Array.getElem?_eq_none h] at h3; cases h3)]
    exact h3
theorem RdG.ofOwn {T sz : Nat} {w : World} {B n : Nat} {v : Value} {cs : List Value} (h : w.ownsRow B T sz v n cs) : RdG T sz w v n cs := by
  refine ⟨h.1, ?_⟩
  rcases h.2 with ⟨h1, h2⟩ | ⟨g, cap, cur, h1, h2, h3, h4, h5, h6, h7⟩
  · exact .inl ⟨h1, h2⟩
  · refine .inr ⟨g, 0, cap, cur, (0, 0), h1, h4, h3, fun j u hu => ?_⟩
    rw [← h7] at hu
    rw [List.getElem?_take] at hu
    split at hu
    · simpa using hu
    · cases hu
theorem RdG.cell {T sz : Nat} {w : World} {g off n m cap : Nat} {cs : List Value} (h : RdG T sz w (.slice (some ⟨g, off, none⟩) n cap) m cs) (j : Nat) (u : Value) (hu : cs[j]? = some u) : w.cell? ⟨g, off + j, none⟩ = some u := by
  rcases h.2 with ⟨h, _⟩ | ⟨g', off', cap', cur, fz, h, _, hg, hc⟩
  · cases h
  · cases h
    simp only [World.cell?, hg]
    exact hc _ _ hu
theorem RdG.form {T sz : Nat} {w : World} {v : Value} {n : Nat} {cs : List Value} (h : RdG T sz w v n cs) : (v = .slice none 0 0 ∧ n = 0) ∨ ∃ g off cap, v = .slice (some ⟨g, off, none⟩) n cap ∧ n ≤ cap := by
  rcases h.2 with h | ⟨g, off, cap, cur, fz, h, h2, _⟩
  · exact .inl h
  · exact .inr ⟨g, off, cap, h, h2⟩
theorem RdG.len {T sz : Nat} {w : World} {a : Option Addr} {n c m : Nat} {cs : List Value} (h : RdG T sz w (.slice a n c) m cs) : n = m := by
  rcases h.form with ⟨h, e⟩ | ⟨g, off, cap, h, _⟩
  · cases h; rw [e]
  · cases h; rfl
theorem RdG.sl {T sz : Nat} {w : World} {v : Value} {n : Nat} {cs : List Value} (h : RdG T sz w v n cs) : ∃ a c, v = .slice a n c := by
  rcases h.form with ⟨h, e⟩ | ⟨g, off, cap, h, _⟩
  · exact ⟨none, 0, by rw [h, e]⟩
  · exact ⟨_, _, h⟩
theorem RdG.form1 {T sz : Nat} {w : World} {v : Value} {n : Nat} {cs : List Value} (h : RdG T sz w v n cs) (h0 : 0 < n) : ∃ g off c, v = .slice (some ⟨g, off, none⟩) n c ∧ n ≤ c := by
  rcases h.form with ⟨_, h⟩ | h
  · omega
  · exact h
/-- copies as changes: their cells -/
def toC (l : List Pv.Cpy) : List Pv.Chg := l.map (fun c => (c.1, (c.2 : Int)))
theorem toC_len (l : List Pv.Cpy) : (toC l).length = l.length := by simp [toC]
/-- copies can be read behind a slice -/
def RdP (w : World) (v : Value) (l : List Pv.Cpy) : Prop := RdG 192 4 w v l.length (rchgs (toC l))
theorem RdP.cell {w : World} {g off n cap : Nat} {l : List Pv.Cpy} (h : RdP w (.slice (some ⟨g, off, none⟩) n cap) l) (j : Nat) (hj : j < l.length) : w.cell? ⟨g, off + j * 4, none⟩ = some (.int .i64 l[j].1.1) ∧ w.cell? ⟨g, off + j * 4 + 1, none⟩ = some (.int .i64 l[j].1.2.1) ∧ w.cell? ⟨g, off + j * 4 + 2, none⟩ = some (.int .i64 l[j].1.2.2) ∧ w.cell? ⟨g, off + j * 4 + 3, none⟩ = some (.int .i64 (l[j].2 : Int)) := by
  obtain ⟨h0, h1, h2, h3⟩ := rchgs_get (toC l) j (by rw [toC_len]; exact hj)
  simp only [toC, List.getElem_map] at h0 h1 h2 h3
  refine ⟨RdG.cell h _ _ h0, ?_, ?_, ?_⟩
  · rw [Nat.add_assoc]; exact RdG.cell h _ _ h1
  · rw [Nat.add_assoc]; exact RdG.cell h _ _ h2
  · rw [Nat.add_assoc]; exact RdG.cell h _ _ h3
/-- four stores lay a thing of four cells into a row -/
theorem own_set4G {T : Nat} {w : World} {B g cap n : Nat} {l : List Pv.Chg} (h : w.ownsRow B T 4 (.slice (some ⟨g, 0, none⟩) n cap) n (rchgs l)) (j : Nat) (hj : j < l.length) (c : Pv.Chg) :
    ((((w.setCell ⟨g, j * 4, none⟩ (.int .i64 c.1.1)).setCell ⟨g, j * 4 + 1, none⟩ (.int .i64 c.1.2.1)).setCell ⟨g, j * 4 + 2, none⟩ (.int .i64 c.1.2.2)).setCell ⟨g, j * 4 + 3, none⟩ (.int .i64 c.2)).ownsRow B T 4 (.slice (some ⟨g, 0, none⟩) n cap) n (rchgs (l.set j c)) := by
  have hl := h.1
  rw [rchgs_len] at hl
  refine ⟨by rw [rchgs_len, List.length_set]; exact hl, ?_⟩
  rcases h.2 with ⟨h1, _⟩ | ⟨g', cap', cur, h1, h2, h3, h4, h5, h6, h7⟩
  · cases h1
  · cases h1
    refine .inr ⟨g, cap, (((cur.setIfInBounds (j * 4) (.int .i64 c.1.1)).setIfInBounds (j * 4 + 1) (.int .i64 c.1.2.1)).setIfInBounds (j * 4 + 2) (.int .i64 c.1.2.2)).setIfInBounds (j * 4 + 3) (.int .i64 c.2), rfl, h2, ?_, h4, h5, by simpa using h6, ?_⟩
    · simp [World.setCell, Array.getElem?_modify, h3]
    · rw [rchgs_set l j c hj, ← h7]
      simp only [Array.toList_setIfInBounds]
      rw [List.take_set, List.take_set, List.take_set, List.take_set]
theorem own_freeG {T sz : Nat} {w : World} {B g cap n : Nat} {xs : List Value} (h : w.ownsRow B T sz (.slice (some ⟨g, 0, none⟩) n cap) n xs) (j : Nat) : w.frozen? ⟨g, j, none⟩ = false := by
  rcases h.2 with ⟨h1, _⟩ | ⟨g', cap', cur, h1, h2, h3, _⟩
  · cases h1
  · cases h1; exact free_of_heap h3 j
end Go.Proofs.YtcoofnhdbejnpaaGreatDoor

/- Package panesref: line. -/
namespace Go.Proofs.YtcoofnhdbejnpaaGreatDoor
open Go.RowKit
/-- two blocks that a call has made of its arguments -/
structure K2 (w w0 : World) (c1 : Array Value) (t1 : Nat) (c2 : Array Value) (t2 : Nat) : Prop where
  a : w0.heap[w.heap.size]? = some (.cells c1 t1 (0, 0))
  b : w0.heap[w.heap.size + 1]? = some (.cells c2 t2 (0, 0))
  bl : Below w.heap.size w w0
theorem K2.start (w : World) (c1 : Array Value) (t1 : Nat) (c2 : Array Value) (t2 : Nat) : K2 w ((w.alloc (.cells c1 t1)).alloc (.cells c2 t2)) c1 t1 c2 t2 := by
  refine ⟨?_, alloc_at (by simp), (((Below.refl _ _).alloc (Nat.le_refl _) _).alloc (by simp) _)⟩
  rw [((Below.refl (w.heap.size + 1) (w.alloc (.cells c1 t1))).alloc (by simp) _).block _ (by omega)]
  exact alloc_at rfl
theorem K2.below {w w0 w1 : World} {c1 c2 : Array Value} {t1 t2 : Nat} (h : K2 w w0 c1 t1 c2 t2) (hb : Below w0.heap.size w0 w1) : K2 w w1 c1 t1 c2 t2 :=
  ⟨by rw [hb.block _ (Array.getElem?_eq_some_iff.1 h.a).1]; exact h.a, by rw [hb.block _ (Array.getElem?_eq_some_iff.1 h.b).1]; exact h.b, h.bl.trans (hb.mono h.bl.size)⟩
theorem K2.size {w w0 : World} {c1 c2 : Array Value} {t1 t2 : Nat} (h : K2 w w0 c1 t1 c2 t2) : w.heap.size + 1 < w0.heap.size := (Array.getElem?_eq_some_iff.1 h.b).1
theorem below_dB {B : Nat} {w wr : World} (h : Below B w wr) : Below B w wr.drew := ⟨h.os, h.tape, h.output, h.size, h.block⟩
theorem below_d {w wr : World} (h : Below w.heap.size w wr) : Below w.heap.size w wr.drew := ⟨h.os, h.tape, h.output, h.size, h.block⟩
end Go.Proofs.YtcoofnhdbejnpaaGreatDoor

/- Package panesref: within. -/
namespace Go.Proofs.YtcoofnhdbejnpaaGreatDoor
open Go.RowKit
/-- a block that a call has made of an argument -/
structure K1 (w w0 : World) (c1 : Array Value) (t1 : Nat) : Prop where
  a : w0.heap[w.heap.size]? = some (.cells c1 t1 (0, 0))
  bl : Below w.heap.size w w0
theorem K1.start (w : World) (c1 : Array Value) (t1 : Nat) : K1 w (w.alloc (.cells c1 t1)) c1 t1 := ⟨alloc_at rfl, (Below.refl _ _).alloc (Nat.le_refl _) _⟩
theorem K1.below {w w0 w1 : World} {c1 : Array Value} {t1 : Nat} (h : K1 w w0 c1 t1) (hb : Below w0.heap.size w0 w1) : K1 w w1 c1 t1 :=
  ⟨by rw [hb.block _ (Array.getElem?_eq_some_iff.1 h.a).1]; exact h.a, h.bl.trans (hb.mono h.bl.size)⟩
theorem K1.size {w w0 : World} {c1 : Array Value} {t1 : Nat} (h : K1 w w0 c1 t1) : w.heap.size < w0.heap.size := (Array.getElem?_eq_some_iff.1 h.a).1
def Blk (w : World) (b : Nat) (cs : Array Value) (t : Nat) : Prop := w.heap[b]? = some (.cells cs t (0, 0))
theorem Blk.below {w w' : World} {b : Nat} {cs : Array Value} {t : Nat} (h : Blk w b cs t) (hb : Below w.heap.size w w') : Blk w' b cs t := by
  unfold Blk; rw [hb.block _ (Array.getElem?_eq_some_iff.1 h).1]; exact h
theorem Blk.cell {w : World} {b : Nat} {cs : Array Value} {t : Nat} (h : Blk w b cs t) (j : Nat) : w.cell? ⟨b, j, none⟩ = cs[j]? := cell_of_heap h j
end Go.Proofs.YtcoofnhdbejnpaaGreatDoor

/- Package tables: isValue, isAhead, checkChange. -/
namespace Go.Proofs.YtcoofnhdbejnpaaGreatDoor
open Go.RowKit
set_option maxHeartbeats 400000 in
theorem isValue_any (n : Int) (w : World) : Calls Tryz.prog 132 #[.int .i64 n] w fun e w' => e = .returned (.bool (Pv.between n)) ∧ w = w' := by
  have HB : ∀ c, Hid ((-1000 ≤ n ∧ n ≤ 1000 ↔ c = true) → Pv.between n = c) := fun c h => by
    rw [Bool.eq_iff_iff, ← h]; simp [Pv.between]
  by_cases h1 : -1000 ≤ n
  · by_cases h2 : n ≤ 1000
    · have H := hide ((HB true).out (by simp [h1, h2]))
      clear HB
      go_enter Tryz.func132, Tryz.ntmps132
      go_wp2
      go_ret
      exact ⟨by rw [H.out]; rfl, rfl⟩
    · have H := hide ((HB false).out (by simp [h2]))
      clear HB
      go_enter Tryz.func132, Tryz.ntmps132
      go_wp2
      go_ret
      exact ⟨by rw [H.out]; rfl, rfl⟩
  · have H := hide ((HB false).out (by simp; omega))
    clear HB
    go_enter Tryz.func132, Tryz.ntmps132
    go_wp2
    go_ret
    exact ⟨by rw [H.out]; rfl, rfl⟩
set_option maxHeartbeats 1000000 in
theorem isAhead_any (p k v p' k' v' : Int) (w : World) : Calls Tryz.prog 133 #[.agg #[.int .i64 p, .int .i64 k, .int .i64 v], .agg #[.int .i64 p', .int .i64 k', .int .i64 v']] w fun e w' => e = .returned (.bool (Pv.lower (p, k, v) (p', k', v'))) ∧ Below w.heap.size w w' := by
  have HL : ∀ c, Hid (((p < p' ∨ (p = p' ∧ (k < k' ∨ (k = k' ∧ v < v')))) ↔ c = true) → Pv.lower (p, k, v) (p', k', v') = c) := fun c h => by
    rw [Bool.eq_iff_iff, Pv.lower_iff]; exact h
  by_cases h2 : p = p'
  · subst h2
    by_cases h4 : k = k'
    · subst h4
      by_cases h5 : v < v'
      · have HH := hide ((HL true).out (by simp [h5]))
        clear HL
        go_enter Tryz.func133, Tryz.ntmps133
        go_wp2
        go_ret
        rw [HH.out]
        exact ⟨rfl, ((Below.refl _ _).alloc (Nat.le_refl _) _).alloc (by simp) _⟩
      · have HH := hide ((HL false).out (by simp [h5]))
        clear HL
        go_enter Tryz.func133, Tryz.ntmps133
        go_wp2
        go_ret
        rw [HH.out]
        exact ⟨rfl, ((Below.refl _ _).alloc (Nat.le_refl _) _).alloc (by simp) _⟩
    · have b4 : (k != k') = true := by simp [h4]
      by_cases h3 : k < k'
      · have HH := hide ((HL true).out (by simp [h3]))
        clear HL
        go_enter Tryz.func133, Tryz.ntmps133
        go_wp2
        go_ret
        rw [HH.out]
        exact ⟨rfl, ((Below.refl _ _).alloc (Nat.le_refl _) _).alloc (by simp) _⟩
      · have HH := hide ((HL false).out (by simp [h3, h4]))
        clear HL
        go_enter Tryz.func133, Tryz.ntmps133
        go_wp2
        go_ret
        rw [HH.out]
        exact ⟨rfl, ((Below.refl _ _).alloc (Nat.le_refl _) _).alloc (by simp) _⟩
  · have b2 : (p != p') = true := by simp [h2]
    by_cases h1 : p < p'
    · have HH := hide ((HL true).out (by simp [h1]))
      clear HL
      go_enter Tryz.func133, Tryz.ntmps133
      go_wp2
      go_ret
      rw [HH.out]
      exact ⟨rfl, ((Below.refl _ _).alloc (Nat.le_refl _) _).alloc (by simp) _⟩
    · have HH := hide ((HL false).out (by simp [h1, h2]))
      clear HL
      go_enter Tryz.func133, Tryz.ntmps133
      go_wp2
      go_ret
      rw [HH.out]
      exact ⟨rfl, ((Below.refl _ _).alloc (Nat.le_refl _) _).alloc (by simp) _⟩
/-- what checkChange says of a change -/
def Pv.chk (c : Pv.Chg) : Int := if Pv.rowOk c.1 = false then 7 else if Pv.cntOk c.2 = false then 8 else 0
set_option maxHeartbeats 1000000 in
theorem checkChange_any (p k v n : Int) (w : World) : Calls Tryz.prog 97 #[.agg #[.int .i64 p, .int .i64 k, .int .i64 v, .int .i64 n]] w fun e w' => e = .returned (.int .i64 (Pv.chk ((p, k, v), n))) ∧ Below w.heap.size w w' := by
  have HK : Hid (Pv.chk ((p, k, v), n) = if (Pv.between p && (Pv.between k && Pv.between v)) = false then 7 else if Pv.cntOk n = false then 8 else 0) := hide rfl
  cases e1 : Pv.between p with
  | false =>
    have HH := hide (show Pv.chk ((p, k, v), n) = 7 by rw [HK.out, e1]; simp)
    clear HK
    go_enter Tryz.func97, Tryz.ntmps97
    go_wp2_with (go_at_call 132; refine (isValue_any _ _).mono ?_; rintro e w' ⟨rfl, rfl⟩; simp only [e1])
    go_ret
    rw [HH.out]
    exact ⟨rfl, (Below.refl _ _).alloc (Nat.le_refl _) _⟩
  | true =>
    cases e2 : Pv.between k with
    | false =>
      have HH := hide (show Pv.chk ((p, k, v), n) = 7 by rw [HK.out, e1, e2]; simp)
      clear HK
      go_enter Tryz.func97, Tryz.ntmps97
      go_wp2_with (go_at_call 132; refine (isValue_any _ _).mono ?_; rintro e w' ⟨rfl, rfl⟩; simp only [e1, e2])
      go_ret
      rw [HH.out]
      exact ⟨rfl, (Below.refl _ _).alloc (Nat.le_refl _) _⟩
    | true =>
      cases e3 : Pv.between v with
      | false =>
        have HH := hide (show Pv.chk ((p, k, v), n) = 7 by rw [HK.out, e1, e2, e3]; simp)
        clear HK
        go_enter Tryz.func97, Tryz.ntmps97
        go_wp2_with (go_at_call 132; refine (isValue_any _ _).mono ?_; rintro e w' ⟨rfl, rfl⟩; simp only [e1, e2, e3])
        go_ret
        rw [HH.out]
        exact ⟨rfl, (Below.refl _ _).alloc (Nat.le_refl _) _⟩
      | true =>
        cases e4 : Pv.cntOk n with
        | false =>
          have HH := hide (show Pv.chk ((p, k, v), n) = 8 by rw [HK.out, e1, e2, e3, e4]; simp)
          have hc : n = 0 ∨ (n ≠ 0 ∧ 40 < n) ∨ (n ≠ 0 ∧ ¬ 40 < n ∧ n < -40) := by
            have : ¬ (n ≠ 0 ∧ -40 ≤ n ∧ n ≤ 40) := fun h => by rw [(Pv.cnt_iff n).2 h] at e4; cases e4
            omega
          clear HK
          rcases hc with rfl | ⟨h0, h1⟩ | ⟨h0, h1, h2⟩
          · go_enter Tryz.func97, Tryz.ntmps97
            go_wp2_with (go_at_call 132; refine (isValue_any _ _).mono ?_; rintro e w' ⟨rfl, rfl⟩; simp only [e1, e2, e3])
            go_ret
            rw [HH.out]
            exact ⟨rfl, (Below.refl _ _).alloc (Nat.le_refl _) _⟩
          · have b0 : (n == 0) = false := by simp [h0]
            go_enter Tryz.func97, Tryz.ntmps97
            go_wp2_with (go_at_call 132; refine (isValue_any _ _).mono ?_; rintro e w' ⟨rfl, rfl⟩; simp only [e1, e2, e3])
            go_ret
            rw [HH.out]
            exact ⟨rfl, (Below.refl _ _).alloc (Nat.le_refl _) _⟩
          · have b0 : (n == 0) = false := by simp [h0]
            go_enter Tryz.func97, Tryz.ntmps97
            go_wp2_with (go_at_call 132; refine (isValue_any _ _).mono ?_; rintro e w' ⟨rfl, rfl⟩; simp only [e1, e2, e3])
            go_ret
            rw [HH.out]
            exact ⟨rfl, (Below.refl _ _).alloc (Nat.le_refl _) _⟩
        | true =>
          have HH := hide (show Pv.chk ((p, k, v), n) = 0 by rw [HK.out, e1, e2, e3, e4]; simp)
          obtain ⟨h0, h1, h2⟩ := (Pv.cnt_iff n).1 e4
          have b0 : (n == 0) = false := by simp [h0]
          clear HK
          go_enter Tryz.func97, Tryz.ntmps97
          go_wp2_with (go_at_call 132; refine (isValue_any _ _).mono ?_; rintro e w' ⟨rfl, rfl⟩; simp only [e1, e2, e3])
          go_ret
          rw [HH.out]
          exact ⟨rfl, (Below.refl _ _).alloc (Nat.le_refl _) _⟩
end Go.Proofs.YtcoofnhdbejnpaaGreatDoor

/- What is read behind slices: rows, KEYs, columns, FUNCs. -/
namespace Go.Proofs.YtcoofnhdbejnpaaGreatDoor
open Go.RowKit
theorem cell_lt {w : World} {a : Addr} {v : Value} (h : w.cell? a = some v) : a.block < w.heap.size := by
  unfold World.cell? at h
  rcases Nat.lt_or_ge a.block w.heap.size with h1 | h1
  · exact h1
  · rw [Array.getElem?_eq_none h1] at h; simp at h
def rrow (r : Pv.R3) : List Value := [.int .i64 r.1, .int .i64 r.2.1, .int .i64 r.2.2]
def rrows (l : List Pv.R3) : List Value := l.flatMap rrow
theorem rrows_snoc (l : List Pv.R3) (r : Pv.R3) : rrows (l ++ [r]) = rrows l ++ rrow r := by simp [rrows]
theorem rrows_len (l : List Pv.R3) : (rrows l).length = l.length * 3 := by
  induction l with
  | nil => rfl
  | cons c l ih => simp only [rrows, List.flatMap_cons, List.length_append] at ih ⊢; rw [ih]; simp [rrow]; omega
theorem rrows_get : ∀ (l : List Pv.R3) (n : Nat) (h : n < l.length), (rrows l)[n * 3]? = some (.int .i64 l[n].1) ∧ (rrows l)[n * 3 + 1]? = some (.int .i64 l[n].2.1) ∧ (rrows l)[n * 3 + 2]? = some (.int .i64 l[n].2.2)
  | [], n, h => by simp at h
  | c :: l, 0, _ => by simp [rrows, rrow]
  | c :: l, n + 1, h => by
    have ih := rrows_get l n (by simpa using h)
    have e : rrows (c :: l) = rrow c ++ rrows l := by simp [rrows]
    have hl : (rrow c).length = 3 := rfl
    rw [e]
    refine ⟨?_, ?_, ?_⟩
    · rw [List.getElem?_append_right (by omega), hl, show (n + 1) * 3 - 3 = n * 3 by omega]; exact ih.1
    · rw [List.getElem?_append_right (by omega), hl, show (n + 1) * 3 + 1 - 3 = n * 3 + 1 by omega]; exact ih.2.1
    · rw [List.getElem?_append_right (by omega), hl, show (n + 1) * 3 + 2 - 3 = n * 3 + 2 by omega]; exact ih.2.2
theorem rrows_set : ∀ (l : List Pv.R3) (j : Nat) (c : Pv.R3), j < l.length → rrows (l.set j c) = (((rrows l).set (j * 3) (.int .i64 c.1)).set (j * 3 + 1) (.int .i64 c.2.1)).set (j * 3 + 2) (.int .i64 c.2.2)
  | [], j, _, h => by simp at h
  | d :: l, 0, c, _ => by simp [rrows, rrow]
  | d :: l, j + 1, c, h => by
    have ih := rrows_set l j c (by simpa using h)
    have e : ∀ m : List Pv.R3, rrows (d :: m) = rrow d ++ rrows m := fun m => by simp [rrows]
    have hl : (rrow d).length = 3 := rfl
    rw [List.set_cons_succ, e, e, ih, List.set_append_right _ _ (by omega), List.set_append_right _ _ (by omega), List.set_append_right _ _ (by omega), hl, show (j + 1) * 3 - 3 = j * 3 by omega, show (j + 1) * 3 + 1 - 3 = j * 3 + 1 by omega, show (j + 1) * 3 + 2 - 3 = j * 3 + 2 by omega]
/-- rows behind a slice -/
def RdR (w : World) (v : Value) (l : List Pv.R3) : Prop := RdG 48 3 w v l.length (rrows l)
theorem RdR.below {w w' : World} {v : Value} {l : List Pv.R3} (h : RdR w v l) (hb : Below w.heap.size w w') : RdR w' v l := RdG.below h hb
theorem RdR.ofOwn {w : World} {B n : Nat} {v : Value} {l : List Pv.R3} (h : w.ownsRow B 48 3 v n (rrows l)) : RdR w v l := by
  have h1 := RdG.ofOwn h
  have hn : n * 3 = (rrows l).length := h.1.symm
  rw [rrows_len] at hn
  obtain rfl : n = l.length := by omega
  exact h1
theorem RdR.cell {w : World} {g off n cap : Nat} {l : List Pv.R3} (h : RdR w (.slice (some ⟨g, off, none⟩) n cap) l) (j : Nat) (hj : j < l.length) : w.cell? ⟨g, off + j * 3, none⟩ = some (.int .i64 l[j].1) ∧ w.cell? ⟨g, off + j * 3 + 1, none⟩ = some (.int .i64 l[j].2.1) ∧ w.cell? ⟨g, off + j * 3 + 2, none⟩ = some (.int .i64 l[j].2.2) := by
  obtain ⟨h0, h1, h2⟩ := rrows_get l j hj
  exact ⟨RdG.cell h _ _ h0, RdG.cell h _ _ h1, RdG.cell h _ _ h2⟩
theorem lcols_get (l : List Nat) (n : Nat) (h : n < l.length) : (colCells l)[n]? = some (.int .i64 (l[n] : Int)) := by
  unfold colCells
  rw [List.getElem?_map, List.getElem?_eq_getElem h]; rfl
/-- columns behind a slice -/
def RdB (w : World) (v : Value) (l : List Nat) : Prop := RdG 215 1 w v l.length (colCells l)
theorem RdB.below {w w' : World} {v : Value} {l : List Nat} (h : RdB w v l) (hb : Below w.heap.size w w') : RdB w' v l := RdG.below h hb
theorem RdB.cell {w : World} {g off n cap : Nat} {l : List Nat} (h : RdB w (.slice (some ⟨g, off, none⟩) n cap) l) (j : Nat) (hj : j < l.length) : w.cell? ⟨g, off + j, none⟩ = some (.int .i64 (l[j] : Int)) := RdG.cell h _ _ (lcols_get l j hj)
theorem lkeys_get : ∀ (l : List (Nat × Bool)) (n : Nat) (h : n < l.length), (keyCells l)[n * 2]? = some (.int .i64 (l[n].1 : Int)) ∧ (keyCells l)[n * 2 + 1]? = some (.bool l[n].2)
  | [], n, h => by simp at h
  | c :: l, 0, _ => by simp [keyCells]
  | c :: l, n + 1, h => by
    have ih := lkeys_get l n (by simpa using h)
    have e : keyCells (c :: l) = [Value.int .i64 (c.1 : Int), .bool c.2] ++ keyCells l := by simp [keyCells]
    have hl : [Value.int .i64 (c.1 : Int), .bool c.2].length = 2 := rfl
    rw [e]
    refine ⟨?_, ?_⟩
    · rw [List.getElem?_append_right (by omega), hl, show (n + 1) * 2 - 2 = n * 2 by omega]; exact ih.1
    · rw [List.getElem?_append_right (by omega), hl, show (n + 1) * 2 + 1 - 2 = n * 2 + 1 by omega]; exact ih.2
/-- KEYs behind a slice -/
def RdK (w : World) (v : Value) (l : List (Nat × Bool)) : Prop := RdG 253 2 w v l.length (keyCells l)
theorem RdK.below {w w' : World} {v : Value} {l : List (Nat × Bool)} (h : RdK w v l) (hb : Below w.heap.size w w') : RdK w' v l := RdG.below h hb
theorem RdK.cell {w : World} {g off n cap : Nat} {l : List (Nat × Bool)} (h : RdK w (.slice (some ⟨g, off, none⟩) n cap) l) (j : Nat) (hj : j < l.length) : w.cell? ⟨g, off + j * 2, none⟩ = some (.int .i64 (l[j].1 : Int)) ∧ w.cell? ⟨g, off + j * 2 + 1, none⟩ = some (.bool l[j].2) := by
  obtain ⟨h0, h1⟩ := lkeys_get l j hj
  exact ⟨RdG.cell h _ _ h0, RdG.cell h _ _ h1⟩
theorem lfns_get : ∀ (l : List Pq.Fn) (n : Nat) (h : n < l.length) (i : Nat), i < 9 → (fnCells l)[n * 9 + i]? = (fnCell l[n])[i]?
  | [], n, h, _, _ => by simp at h
  | c :: l, 0, _, i, hi => by
    have e : fnCells (c :: l) = fnCell c ++ fnCells l := by simp [fnCells]
    have hl : (fnCell c).length = 9 := rfl
    rw [e, List.getElem?_append_left (by omega)]
    simp
  | c :: l, n + 1, h, i, hi => by
    have ih := lfns_get l n (by simpa using h) i hi
    have e : fnCells (c :: l) = fnCell c ++ fnCells l := by simp [fnCells]
    have hl : (fnCell c).length = 9 := rfl
    rw [e, List.getElem?_append_right (by omega), hl, show (n + 1) * 9 + i - 9 = n * 9 + i by omega]
    exact ih
/-- FUNCs behind a slice -/
def RdF (w : World) (v : Value) (l : List Pq.Fn) : Prop := RdG 223 9 w v l.length (fnCells l)
theorem RdF.below {w w' : World} {v : Value} {l : List Pq.Fn} (h : RdF w v l) (hb : Below w.heap.size w w') : RdF w' v l := RdG.below h hb
theorem RdF.cell {w : World} {g off n cap : Nat} {l : List Pq.Fn} (h : RdF w (.slice (some ⟨g, off, none⟩) n cap) l) (j : Nat) (hj : j < l.length) (i : Nat) (hi : i < 9) (u : Value) (hu : (fnCell l[j])[i]? = some u) : w.cell? ⟨g, off + (j * 9 + i), none⟩ = some u :=
  RdG.cell h _ _ ((lfns_get l j hj i hi).trans hu)
end Go.Proofs.YtcoofnhdbejnpaaGreatDoor

/- Package lines: the small functions: Of, has, cut, some, none, tileOf, edge. -/
namespace Go.Proofs.YtcoofnhdbejnpaaGreatDoor
open Go.RowKit
/-- a line in memory: its two cells, and what they read as -/
structure LnAt (w : World) (g o : Nat) (vk vc : Value) (ks : List (Nat × Bool)) (L : List Pv.R3) : Prop where
  c0 : w.cell? ⟨g, o, none⟩ = some vk
  c1 : w.cell? ⟨g, o + 1, none⟩ = some vc
  rk : RdK w vk ks
  rc : RdR w vc L
theorem LnAt.below {w w' : World} {g o : Nat} {vk vc : Value} {ks : List (Nat × Bool)} {L : List Pv.R3} (h : LnAt w g o vk vc ks L) (hb : Below w.heap.size w w') : LnAt w' g o vk vc ks L :=
  ⟨(hb.cell (p := ⟨g, o, none⟩) (cell_lt h.c0)).trans h.c0, (hb.cell (p := ⟨g, o + 1, none⟩) (cell_lt h.c1)).trans h.c1, h.rk.below hb, h.rc.below hb⟩
set_option maxHeartbeats 400000 in
theorem colOf_any {c : Nat} (hc : c < 3) (p u v : Int) (w : World) : Calls Tryz.prog 197 #[.int .i64 (c : Int), .agg #[.int .i64 p, .int .i64 u, .int .i64 v]] w fun e w' => e = .returned (.int .i64 (Pv.colV c (p, u, v))) ∧ Below w.heap.size w w' := by
  match c, hc with
  | 0, _ =>
    have e : ((0 : Nat) : Int) = 0 := rfl
    rw [e]
    go_enter Tryz.func197, Tryz.ntmps197
    go_wp2
    go_ret
    exact ⟨rfl, (Below.refl _ _).alloc (Nat.le_refl _) _⟩
  | 1, _ =>
    have e : ((1 : Nat) : Int) = 1 := rfl
    rw [e]
    go_enter Tryz.func197, Tryz.ntmps197
    go_wp2
    go_ret
    exact ⟨rfl, (Below.refl _ _).alloc (Nat.le_refl _) _⟩
  | 2, _ =>
    have e : ((2 : Nat) : Int) = 2 := rfl
    rw [e]
    go_enter Tryz.func197, Tryz.ntmps197
    go_wp2
    go_ret
    exact ⟨rfl, (Below.refl _ _).alloc (Nat.le_refl _) _⟩
/-- is there a copy at the position -/
def Pv.hasP (n : Nat) (i : Int) : Bool := decide (1 ≤ i ∧ i ≤ (n : Int))
theorem Pv.hasP_yes {n : Nat} {i : Int} (h : 1 ≤ i ∧ i ≤ (n : Int)) : Pv.hasP n i = true := by simp [Pv.hasP, h]
theorem Pv.hasP_no {n : Nat} {i : Int} (h : ¬ (1 ≤ i ∧ i ≤ (n : Int))) : Pv.hasP n i = false := by unfold Pv.hasP; exact decide_eq_false h
set_option maxHeartbeats 400000 in
theorem has_any {w : World} {g o : Nat} {x : Option Addr} {n c : Nat} (h : w.cell? ⟨g, o + 1, none⟩ = some (.slice x n c)) (i : Int) : Calls Tryz.prog 199 #[.pointer (some ⟨g, o, none⟩), .int .i64 i] w fun e w' => e = .returned (.bool (Pv.hasP n i)) ∧ w' = w := by
  by_cases h1 : 1 ≤ i
  · by_cases h2 : i ≤ (n : Int)
    · have H := hide (Pv.hasP_yes ⟨h1, h2⟩)
      go_enter Tryz.func199, Tryz.ntmps199
      go_wp2
      go_ret
      exact ⟨by rw [H.out]; rfl, rfl⟩
    · have H : Hid (Pv.hasP n i = false) := Pv.hasP_no (by omega)
      go_enter Tryz.func199, Tryz.ntmps199
      go_wp2
      go_ret
      exact ⟨by rw [H.out]; rfl, rfl⟩
  · have H : Hid (Pv.hasP n i = false) := Pv.hasP_no (by omega)
    go_enter Tryz.func199, Tryz.ntmps199
    go_wp2
    go_ret
    exact ⟨by rw [H.out]; rfl, rfl⟩
set_option maxHeartbeats 400000 in
theorem lcut_any {w : World} {g o : Nat} {x : Option Addr} {n c : Nat} (h : w.cell? ⟨g, o + 1, none⟩ = some (.slice x n c)) (a b : Int) : Calls Tryz.prog 136 #[.pointer (some ⟨g, o, none⟩), .int .i64 a, .int .i64 b] w fun e w' => e = .returned (.tuple #[.int .i64 (Pv.cutA a), .int .i64 (Pv.cutB b n)]) ∧ w' = w := by
  have HA : ∀ z, Hid ((if a < 1 then 1 else a) = z → Pv.cutA a = z) := fun z h => h
  have HB : ∀ z, Hid ((if (n : Int) < b then (n : Int) else b) = z → Pv.cutB b n = z) := fun z h => h
  by_cases h1 : a < 1
  · have H1 := hide ((HA 1).out (if_pos h1))
    by_cases h2 : (n : Int) < b
    · have H2 := hide ((HB n).out (if_pos h2))
      go_enter Tryz.func136, Tryz.ntmps136
      go_wp2
      go_ret2
      exact ⟨by rw [H1.out, H2.out]; rfl, rfl⟩
    · have H2 := hide ((HB b).out (if_neg h2))
      go_enter Tryz.func136, Tryz.ntmps136
      go_wp2
      go_ret2
      exact ⟨by rw [H1.out, H2.out]; rfl, rfl⟩
  · have H1 := hide ((HA a).out (if_neg h1))
    by_cases h2 : (n : Int) < b
    · have H2 := hide ((HB n).out (if_pos h2))
      go_enter Tryz.func136, Tryz.ntmps136
      go_wp2
      go_ret2
      exact ⟨by rw [H1.out, H2.out]; rfl, rfl⟩
    · have H2 := hide ((HB b).out (if_neg h2))
      go_enter Tryz.func136, Tryz.ntmps136
      go_wp2
      go_ret2
      exact ⟨by rw [H1.out, H2.out]; rfl, rfl⟩
end Go.Proofs.YtcoofnhdbejnpaaGreatDoor

/- Package panesref: groups. -/
namespace Go.Proofs.YtcoofnhdbejnpaaGreatDoor
open Go.RowKit
theorem wrap_id {x : Int} (h1 : -4000000000000000000 ≤ x) (h2 : x ≤ 4000000000000000000) : IntKind.i64.wrap x = x := by
  rw [IntKind.wrap_i64]; omega
end Go.Proofs.YtcoofnhdbejnpaaGreatDoor

/- Package panesref: total. -/
namespace Go.Proofs.YtcoofnhdbejnpaaGreatDoor
open Go.RowKit
/-- a value of an out row -/
def vv (v : Pv.Val) : Value := match v with | none => .agg #[.bool false, .int .i64 0] | some n => .agg #[.bool true, .int .i64 n]
theorem set2 {W : World} {b : Nat} {v0 v1 : Value} {T : Nat} (h : Blk W b #[v0, v1] T) (x y : Value) : ((W.setCell ⟨b, 0, none⟩ x).setCell ⟨b, 1, none⟩ y).cell? ⟨b, 0, none⟩ = some x ∧ ((W.setCell ⟨b, 0, none⟩ x).setCell ⟨b, 1, none⟩ y).cell? ⟨b, 1, none⟩ = some y := by
  have h' : W.heap[b]? = some (.cells #[v0, v1] T (0, 0)) := h
  constructor <;> simp [World.cell?, World.setCell, Array.getElem?_modify, h']
end Go.Proofs.YtcoofnhdbejnpaaGreatDoor

