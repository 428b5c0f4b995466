/- Package paneskeep: raw bytes, one after the other; words. -/
import Derived.Test.YtcoofnhdbejnpaaGreatDoorG06
import Derived.Test.YtcoofnhdbejnpaaGreatDoorG08
import Derived.Test.YtcoofnhdbejnpaaGreatDoorG10
namespace Go.Proofs.YtcoofnhdbejnpaaGreatDoor
open Go.RowKit
open Pk (TS nxt adv)
/-- the feed lies in block bf, the text in block bt -/
structure TF (w : World) (bf bt : Nat) (s : ByteArray) (x : TS) : Prop where
  feed : w.heap[bf]? = some (.cells #[.string s, .int .i64 (x.a : Int)] 31 (0, 0))
  text : w.heap[bt]? = some (.cells #[.string ⟨x.raw.toArray⟩, .string ⟨x.plain.toArray⟩] 60 (0, 0))
  le : x.a ≤ s.size
  sz : s.size ≤ maxLen
theorem TF.ne {w : World} {bf bt : Nat} {s : ByteArray} {x : TS} (h : TF w bf bt s x) : bf ≠ bt := by
  intro e; have := h.feed; rw [e, h.text] at this; simp at this
theorem TF.lt {w : World} {bf bt : Nat} {s : ByteArray} {x : TS} (h : TF w bf bt s x) : bf < w.heap.size ∧ bt < w.heap.size :=
  ⟨(Array.getElem?_eq_some_iff.1 h.feed).1, (Array.getElem?_eq_some_iff.1 h.text).1⟩
theorem TF.congr {w w' : World} {bf bt : Nat} {s : ByteArray} {x : TS} (h : TF w bf bt s x) (h1 : w'.heap[bf]? = w.heap[bf]?) (h2 : w'.heap[bt]? = w.heap[bt]?) : TF w' bf bt s x :=
  ⟨by rw [h1]; exact h.feed, by rw [h2]; exact h.text, h.le, h.sz⟩
theorem TF.drewN {w : World} {bf bt : Nat} {s : ByteArray} {x : TS} (h : TF w bf bt s x) (n : Nat) : TF (w.drewN n) bf bt s x := h.congr rfl rfl
theorem TF.drew {w : World} {bf bt : Nat} {s : ByteArray} {x : TS} (h : TF w bf bt s x) : TF w.drew bf bt s x := h.congr rfl rfl
theorem TF.alloc {w : World} {bf bt : Nat} {s : ByteArray} {x : TS} (h : TF w bf bt s x) (o : Obj) : TF (w.alloc o) bf bt s x := h.congr (Below.heap_alloc _ _ _ h.lt.1) (Below.heap_alloc _ _ _ h.lt.2)
theorem TF.is {w : World} {bf bt : Nat} {s : ByteArray} {x y : TS} (h : TF w bf bt s x) (e : x = y) : TF w bf bt s y := e ▸ h
theorem TF.setA {w : World} {bf bt : Nat} {s : ByteArray} {x : TS} (h : TF w bf bt s x) (n : Nat) (hn : n ≤ s.size) : TF (w.setCell ⟨bf, 1, none⟩ (.int .i64 (n : Int))) bf bt s { x with a := n } :=
  ⟨heap_setSame h.feed 1 _, heap_setOther h.text h.ne _, hn, h.sz⟩
theorem TF.setRaw {w : World} {bf bt : Nat} {s : ByteArray} {x : TS} (h : TF w bf bt s x) (r : ByteArray) : TF (w.setCell ⟨bt, 0, none⟩ (.string r)) bf bt s { x with raw := r.data.toList } :=
  ⟨heap_setOther h.feed h.ne.symm _, by have := heap_setSame h.text 0 (.string r); rw [← bytes_eq (a := r) rfl]; exact this, h.le, h.sz⟩
theorem TF.setPlain {w : World} {bf bt : Nat} {s : ByteArray} {x : TS} (h : TF w bf bt s x) (r : ByteArray) : TF (w.setCell ⟨bt, 1, none⟩ (.string r)) bf bt s { x with plain := r.data.toList } :=
  ⟨heap_setOther h.feed h.ne.symm _, by have := heap_setSame h.text 1 (.string r); rw [← bytes_eq (a := r) rfl]; exact this, h.le, h.sz⟩
theorem TF.cells {w : World} {bf bt : Nat} {s : ByteArray} {x : TS} (h : TF w bf bt s x) :
    w.cell? ⟨bf, 0, none⟩ = some (.string s) ∧ w.cell? ⟨bf, 1, none⟩ = some (.int .i64 (x.a : Int)) ∧ w.cell? ⟨bt, 0, none⟩ = some (.string ⟨x.raw.toArray⟩) ∧ w.cell? ⟨bt, 1, none⟩ = some (.string ⟨x.plain.toArray⟩) :=
  ⟨cell_of_heap h.feed 0, cell_of_heap h.feed 1, cell_of_heap h.text 0, cell_of_heap h.text 1⟩
theorem TF.free {w : World} {bf bt : Nat} {s : ByteArray} {x : TS} (h : TF w bf bt s x) : w.frozen? ⟨bf, 1, none⟩ = false ∧ w.frozen? ⟨bt, 0, none⟩ = false ∧ w.frozen? ⟨bt, 1, none⟩ = false :=
  ⟨free_of_heap h.feed 1, free_of_heap h.text 0, free_of_heap h.text 1⟩
/-- blocks bf and bt alone have turned, and new blocks have come -/
structure G2 (bf bt : Nat) (w w' : World) : Prop where
  os : w'.os = w.os
  tape : w'.tape = w.tape
  output : w'.output = w.output
  size : w.heap.size ≤ w'.heap.size
  block : ∀ k, k < w.heap.size → k ≠ bf → k ≠ bt → w'.heap[k]? = w.heap[k]?
theorem G2.refl (bf bt : Nat) (w : World) : G2 bf bt w w := ⟨rfl, rfl, rfl, Nat.le_refl _, fun _ _ _ _ => rfl⟩
theorem G2.trans {bf bt : Nat} {w1 w2 w3 : World} (h : G2 bf bt w1 w2) (k : G2 bf bt w2 w3) : G2 bf bt w1 w3 :=
  ⟨k.os.trans h.os, k.tape.trans h.tape, k.output.trans h.output, Nat.le_trans h.size k.size, fun i hi a b => (k.block i (Nat.lt_of_lt_of_le hi h.size) a b).trans (h.block i hi a b)⟩
theorem G2.drewN {bf bt : Nat} {w w' : World} (h : G2 bf bt w w') (n : Nat) : G2 bf bt w (w'.drewN n) := h.trans ⟨rfl, rfl, rfl, Nat.le_refl _, fun _ _ _ _ => rfl⟩
theorem G2.drew {bf bt : Nat} {w w' : World} (h : G2 bf bt w w') : G2 bf bt w w'.drew := h.trans ⟨rfl, rfl, rfl, Nat.le_refl _, fun _ _ _ _ => rfl⟩
theorem G2.setF {bf bt : Nat} {w w' : World} (h : G2 bf bt w w') (j : Nat) (v : Value) : G2 bf bt w (w'.setCell ⟨bf, j, none⟩ v) :=
  h.trans ⟨rfl, rfl, rfl, by simp [World.setCell], fun k _ hn _ => Below.heap_setCell _ _ _ _ hn⟩
theorem G2.setT {bf bt : Nat} {w w' : World} (h : G2 bf bt w w') (j : Nat) (v : Value) : G2 bf bt w (w'.setCell ⟨bt, j, none⟩ v) :=
  h.trans ⟨rfl, rfl, rfl, by simp [World.setCell], fun k _ _ hn => Below.heap_setCell _ _ _ _ hn⟩
theorem G2.alloc {bf bt : Nat} {w w' : World} (h : G2 bf bt w w') (o : Obj) : G2 bf bt w (w'.alloc o) := h.trans ⟨rfl, rfl, rfl, by simp, fun k hk _ _ => Below.heap_alloc _ _ _ hk⟩
theorem G2.keep {bf bt c : Nat} {w w' : World} {o : Obj} (h : G2 bf bt w w') (hc : w.heap[c]? = some o) (h1 : c ≠ bf) (h2 : c ≠ bt) : w'.heap[c]? = some o := by
  rw [h.block c (Array.getElem?_eq_some_iff.1 hc).1 h1 h2]; exact hc
theorem G2.below {bf bt B : Nat} {w w' : World} (h : G2 bf bt w w') (h1 : B ≤ bf) (h2 : B ≤ bt) (hs : bf < w.heap.size) : Below B w w' :=
  ⟨h.os, h.tape, h.output, h.size, fun k hk => h.block k (by omega) (by omega) (by omega)⟩
theorem wrap64_u8 (c : UInt8) : wrap64 (c.toNat : Int) = (c.toNat : Int) := by
  have := c.toNat_lt
  unfold wrap64; omega
set_option maxHeartbeats 400000 in
theorem next_any {w : World} {bf bt : Nat} {s : ByteArray} {x : TS} (h : TF w bf bt s x) (n : Nat) (h0 : 0 < n) (h1 : n ≤ 100) :
    Calls Tryz.prog 14 #[.pointer (some ⟨bf, 0, none⟩), .int .i64 (n : Int)] w fun e w' => e = .returned (.int .i64 (nxt s.data.toList x.a n : Nat)) ∧ TF w' bf bt s (x.eat s.data.toList) ∧ G2 bf bt w w' := by
  have H := hide h
  obtain ⟨c0, c1, c2, c3⟩ := h.cells
  obtain ⟨z0, z1, z2⟩ := h.free
  have hle := h.le
  have hsz := h.sz
  unfold maxLen at hsz
  clear h
  by_cases hlt : x.a < s.size
  · have hl : x.a < s.data.toList.length := by simpa using hlt
    have HN : Hid (nxt s.data.toList x.a n = s[x.a].toNat % n) := by show _ = _; unfold Pk.nxt; rw [dif_pos hl]; rfl
    have HA : Hid (x.eat s.data.toList = { x with a := x.a + 1 }) := by show _ = _; unfold Pk.TS.eat Pk.adv; rw [if_pos hl]
    go_enter Tryz.func14, Tryz.ntmps14
    go_wp2
    go_quiet (fail)
    go_wp2
    go_quiet (fail)
    go_wp2
    go_ret
    rw [HN.out, HA.out]
    refine ⟨?_, (H.out.drewN _).setA (x.a + 1) hlt, ((G2.refl _ _ _).drewN _).setF _ _⟩
    exact ret_int (by rw [wrap64_u8]; exact (Int.ofNat_tmod _ _).symm)
  · have HN : Hid (nxt s.data.toList x.a n = 0) := by show _ = _; unfold Pk.nxt; rw [dif_neg (by simpa using hlt)]
    have HA : Hid (x.eat s.data.toList = x) := by show _ = _; unfold Pk.TS.eat Pk.adv; rw [if_neg (by simpa using hlt)]
    go_enter Tryz.func14, Tryz.ntmps14
    go_wp2
    go_quiet (fail)
    go_wp2
    go_ret
    rw [HN.out, HA.out]
    exact ⟨rfl, H.out.drewN _, (G2.refl _ _ _).drewN _⟩
def LenOk (x : TS) : Prop := x.raw.length ≤ 1000000 ∧ x.plain.length ≤ 1000000
set_option maxHeartbeats 2000000 in
theorem word_any {w : World} {bf bt : Nat} {s : ByteArray} {x : TS} (h : TF w bf bt s x) (t : Pq.Bytes) (hx : LenOk x) (ht : t.length ≤ 100) :
    Calls Tryz.prog 52 #[.pointer (some ⟨bt, 0, none⟩), .pointer (some ⟨bf, 0, none⟩), .string ⟨t.toArray⟩] w fun e w' => e = .returned (.tuple #[]) ∧ TF w' bf bt s (Pk.wordS s.data.toList t x) ∧ G2 bf bt w w' := by
  have H := hide h
  obtain ⟨c0, c1, c2, c3⟩ := h.cells
  obtain ⟨z0, z1, z2⟩ := h.free
  obtain ⟨l1, l2⟩ := hx
  have hne := h.ne
  have hne' := h.ne.symm
  clear h
  by_cases hp : x.plain = []
  · rw [hp] at c3
    go_enter Tryz.func52, Tryz.ntmps52
    go_wp2_with fail
    refine (next_any H.out 6 (by omega) (by omega)).mono ?_
    rintro e w1 ⟨rfl, h1, g1⟩
    have H1 : Hid (TF w1 bf bt s ⟨adv s.data.toList x.a, x.raw, x.plain⟩) := h1
    have G1 := g1
    clear h1 g1 c0 c1 c2 c3 z0 z1 z2
    by_cases hq : nxt s.data.toList x.a 6 = 1
    · have hq' : ((nxt s.data.toList x.a 6 : Int) == 1) = true := by rw [hq]; rfl
      have HQ := hide hq
      clear hq
      obtain ⟨d0, d1, d2, d3⟩ := H1.out.cells
      obtain ⟨y0, y1, y2⟩ := H1.out.free
      go_wp2
      go_end0
      refine ⟨rfl, (((H1.out.setRaw _).setRaw _).setPlain _).is ?_, ((G1.setT _ _).setT _ _).setT _ _⟩
      simp [Pk.wordS, Pk.pre, hp, HQ.out]
    · have hq' : ((nxt s.data.toList x.a 6 : Int) == 1) = false := by rw [beq_eq_false_iff_ne]; omega
      have HQ := hide hq
      clear hq
      obtain ⟨d0, d1, d2, d3⟩ := H1.out.cells
      obtain ⟨y0, y1, y2⟩ := H1.out.free
      go_wp2
      go_end0
      refine ⟨rfl, ((H1.out.setRaw _).setPlain _).is ?_, (G1.setT _ _).setT _ _⟩
      simp [Pk.wordS, Pk.pre, hp, HQ.out]
  · have hp' : (x.plain == []) = false := by simpa using hp
    have HP := hide hp
    go_enter Tryz.func52, Tryz.ntmps52
    go_wp2_with fail
    have H0 := hide (((H.out.setRaw (⟨x.raw.toArray⟩ ++ ⟨#[32]⟩)).setPlain (⟨x.plain.toArray⟩ ++ ⟨#[32]⟩)).is (show _ = (⟨x.a, x.raw ++ [32], x.plain ++ [32]⟩ : TS) by simp))
    have l3 : (x.raw ++ [32]).length ≤ 1000001 := by simp; omega
    have l4 : (x.plain ++ [32]).length ≤ 1000001 := by simp; omega
    have G0 := ((G2.refl bf bt w).setT 0 (.string (⟨x.raw.toArray⟩ ++ ⟨#[32]⟩))).setT 1 (.string (⟨x.plain.toArray⟩ ++ ⟨#[32]⟩))
    refine (next_any H0.out 6 (by omega) (by omega)).mono ?_
    rintro e w1 ⟨rfl, h1, g1⟩
    have H1 : Hid (TF w1 bf bt s ⟨adv s.data.toList x.a, x.raw ++ [32], x.plain ++ [32]⟩) := h1
    have G1 := G0.trans g1
    clear h1 g1 c0 c1 c2 c3 z0 z1 z2 H0 G0
    by_cases hq : nxt s.data.toList x.a 6 = 1
    · have hq' : ((nxt s.data.toList x.a 6 : Int) == 1) = true := by rw [hq]; rfl
      have HQ := hide hq
      clear hq
      obtain ⟨d0, d1, d2, d3⟩ := H1.out.cells
      obtain ⟨y0, y1, y2⟩ := H1.out.free
      go_wp2
      go_end0
      refine ⟨rfl, (((H1.out.setRaw _).setRaw _).setPlain _).is ?_, ((G1.setT _ _).setT _ _).setT _ _⟩
      simp [Pk.wordS, Pk.pre, hp, HQ.out]
    · have hq' : ((nxt s.data.toList x.a 6 : Int) == 1) = false := by rw [beq_eq_false_iff_ne]; omega
      have HQ := hide hq
      clear hq
      obtain ⟨d0, d1, d2, d3⟩ := H1.out.cells
      obtain ⟨y0, y1, y2⟩ := H1.out.free
      go_wp2
      go_end0
      refine ⟨rfl, ((H1.out.setRaw _).setPlain _).is ?_, (G1.setT _ _).setT _ _⟩
      simp [Pk.wordS, Pk.pre, hp, HQ.out]
set_option maxHeartbeats 2000000 in
theorem glued_any {w : World} {bf bt : Nat} {s : ByteArray} {x : TS} (h : TF w bf bt s x) (t : Pq.Bytes) (hx : LenOk x) (ht : t.length ≤ 100) :
    Calls Tryz.prog 54 #[.pointer (some ⟨bt, 0, none⟩), .pointer (some ⟨bf, 0, none⟩), .string ⟨t.toArray⟩] w fun e w' => e = .returned (.tuple #[]) ∧ TF w' bf bt s (Pk.gluedS s.data.toList t x) ∧ G2 bf bt w w' := by
  have H := hide h
  obtain ⟨c0, c1, c2, c3⟩ := h.cells
  obtain ⟨z0, z1, z2⟩ := h.free
  obtain ⟨l1, l2⟩ := hx
  have hne := h.ne
  have hne' := h.ne.symm
  clear h
  go_enter Tryz.func54, Tryz.ntmps54
  go_wp2_with fail
  refine (next_any H.out 4 (by omega) (by omega)).mono ?_
  rintro e w1 ⟨rfl, h1, g1⟩
  have H1 : Hid (TF w1 bf bt s ⟨adv s.data.toList x.a, x.raw, x.plain⟩) := h1
  have G1 := g1
  clear h1 g1 c0 c1 c2 c3 z0 z1 z2
  by_cases hq : nxt s.data.toList x.a 4 = 1
  · have hq' : ((nxt s.data.toList x.a 4 : Int) == 1) = true := by rw [hq]; rfl
    have HQ := hide hq
    clear hq
    obtain ⟨d0, d1, d2, d3⟩ := H1.out.cells
    obtain ⟨y0, y1, y2⟩ := H1.out.free
    go_wp2
    go_end0
    refine ⟨rfl, (((H1.out.setRaw _).setRaw _).setPlain _).is ?_, ((G1.setT _ _).setT _ _).setT _ _⟩
    simp [Pk.gluedS, HQ.out]
  · have hq' : ((nxt s.data.toList x.a 4 : Int) == 1) = false := by rw [beq_eq_false_iff_ne]; omega
    have HQ := hide hq
    clear hq
    obtain ⟨d0, d1, d2, d3⟩ := H1.out.cells
    obtain ⟨y0, y1, y2⟩ := H1.out.free
    go_wp2
    go_end0
    refine ⟨rfl, ((H1.out.setRaw _).setPlain _).is ?_, (G1.setT _ _).setT _ _⟩
    simp [Pk.gluedS, HQ.out]
end Go.Proofs.YtcoofnhdbejnpaaGreatDoor

