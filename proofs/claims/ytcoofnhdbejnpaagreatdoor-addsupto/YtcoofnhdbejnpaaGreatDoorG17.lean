/- Package paneskeep: raw bytes, one after the other; words. -/
import Derived.Test.YtcoofnhdbejnpaaGreatDoorG05
import Derived.Test.YtcoofnhdbejnpaaGreatDoorG14
import Derived.Test.YtcoofnhdbejnpaaGreatDoorG16
import Derived.Test.YtcoofnhdbejnpaaGreatDoorG01
import Derived.Test.YtcoofnhdbejnpaaGreatDoorG13
namespace Go.Proofs.YtcoofnhdbejnpaaGreatDoor
open Go.RowKit
open Pk (TS nxt adv)
/-- the feed lies in block bf, the text in block bt -/
structure TF (w : World) (bf bt : Nat) (s : ByteArray) (x : TS) : Prop where
  feed : w.heap[bf]? = some (.cells #[.string s, .int .i64 (x.a : Int)] 31 (0, 0))
  text : w.heap[bt]? = some (.cells #[.string ⟨x.raw.toArray⟩, .string ⟨x.plain.toArray⟩] 60 (0, 0))
  le : x.a ≤ s.size
  sz : s.size ≤ maxLen
theorem TF.ne {w : World} {bf bt : Nat} {s : ByteArray} {x : TS} (h : TF w bf bt s x) : bf ≠ bt := by
  intro e; have := h.feed; rw [e, h.text] at this; simp at this
theorem TF.lt {w : World} {bf bt : Nat} {s : ByteArray} {x : TS} (h : TF w bf bt s x) : bf < w.heap.size ∧ bt < w.heap.size :=
  ⟨(Array.getElem?_eq_some_iff.1 h.feed).1, (Array.getElem?_eq_some_iff.1 h.text).1⟩
theorem TF.congr {w w' : World} {bf bt : Nat} {s : ByteArray} {x : TS} (h : TF w bf bt s x) (h1 : w'.heap[bf]? = w.heap[bf]?) (h2 : w'.heap[bt]? = w.heap[bt]?) : TF w' bf bt s x :=
  ⟨by rw [h1]; exact h.feed, by rw [h2]; exact h.text, h.le, h.sz⟩
theorem TF.drewN {w : World} {bf bt : Nat} {s : ByteArray} {x : TS} (h : TF w bf bt s x) (n : Nat) : TF (w.drewN n) bf bt s x := h.congr rfl rfl
theorem TF.drew {w : World} {bf bt : Nat} {s : ByteArray} {x : TS} (h : TF w bf bt s x) : TF w.drew bf bt s x := h.congr rfl rfl
theorem TF.alloc {w : World} {bf bt : Nat} {s : ByteArray} {x : TS} (h : TF w bf bt s x) (o : Obj) : TF (w.alloc o) bf bt s x := h.congr (Below.heap_alloc _ _ _ h.lt.1) (Below.heap_alloc _ _ _ h.lt.2)
theorem TF.is {w : World} {bf bt : Nat} {s : ByteArray} {x y : TS} (h : TF w bf bt s x) (e : x = y) : TF w bf bt s y := e ▸ h
theorem TF.setA {w : World} {bf bt : Nat} {s : ByteArray} {x : TS} (h : TF w bf bt s x) (n : Nat) (hn : n ≤ s.size) : TF (w.setCell ⟨bf, 1, none⟩ (.int .i64 (n : Int))) bf bt s { x with a := n } :=
  ⟨heap_setSame h.feed 1 _, heap_setOther h.text h.ne _, hn, h.sz⟩
theorem TF.setRaw {w : World} {bf bt : Nat} {s : ByteArray} {x : TS} (h : TF w bf bt s x) (r : ByteArray) : TF (w.setCell ⟨bt, 0, none⟩ (.string r)) bf bt s { x with raw := r.data.toList } :=
  ⟨heap_setOther h.feed h.ne.symm _, by have := heap_setSame h.text 0 (.string r); rw [← bytes_eq (a := r) rfl]; exact this, h.le, h.sz⟩
theorem TF.setPlain {w : World} {bf bt : Nat} {s : ByteArray} {x : TS} (h : TF w bf bt s x) (r : ByteArray) : TF (w.setCell ⟨bt, 1, none⟩ (.string r)) bf bt s { x with plain := r.data.toList } :=
  ⟨heap_setOther h.feed h.ne.symm _, by have := heap_setSame h.text 1 (.string r); rw [← bytes_eq (a := r) rfl]; exact this, h.le, h.sz⟩
theorem TF.cells {w : World} {bf bt : Nat} {s : ByteArray} {x : TS} (h : TF w bf bt s x) :
    w.cell? ⟨bf, 0, none⟩ = some (.string s) ∧ w.cell? ⟨bf, 1, none⟩ = some (.int .i64 (x.a : Int)) ∧ w.cell? ⟨bt, 0, none⟩ = some (.string ⟨x.raw.toArray⟩) ∧ w.cell? ⟨bt, 1, none⟩ = some (.string ⟨x.plain.toArray⟩) :=
  ⟨cell_of_heap h.feed 0, cell_of_heap h.feed 1, cell_of_heap h.text 0, cell_of_heap h.text 1⟩
theorem TF.free {w : World} {bf bt : Nat} {s : ByteArray} {x : TS} (h : TF w bf bt s x) : w.frozen? ⟨bf, 1, none⟩ = false ∧ w.frozen? ⟨bt, 0, none⟩ = false ∧ w.frozen? ⟨bt, 1, none⟩ = false :=
  ⟨free_of_heap h.feed 1, free_of_heap h.text 0, free_of_heap h.text 1⟩
/-- blocks bf and bt alone have turned, and new blocks have come -/
structure G2 (bf bt : Nat) (w w' : World) : Prop where
  os : w'.os = w.os
  tape : w'.tape = w.tape
  output : w'.output = w.output
  size : w.heap.size ≤ w'.heap.size
  block : ∀ k, k < w.heap.size → k ≠ bf → k ≠ bt → w'.heap[k]? = w.heap[k]?
theorem G2.refl (bf bt : Nat) (w : World) : G2 bf bt w w := ⟨rfl, rfl, rfl, Nat.le_refl _, fun _ _ _ _ => rfl⟩
theorem G2.trans {bf bt : Nat} {w1 w2 w3 : World} (h : G2 bf bt w1 w2) (k : G2 bf bt w2 w3) : G2 bf bt w1 w3 :=
  ⟨k.os.trans h.os, k.tape.trans h.tape, k.output.trans h.output, Nat.le_trans h.size k.size, fun i hi a b => (k.block i (Nat.lt_of_lt_of_le hi h.size) a b).trans (h.block i hi a b)⟩
theorem G2.drewN {bf bt : Nat} {w w' : World} (h : G2 bf bt w w') (n : Nat) : G2 bf bt w (w'.drewN n) := h.trans ⟨rfl, rfl, rfl, Nat.le_refl _, fun _ _ _ _ => rfl⟩
theorem G2.drew {bf bt : Nat} {w w' : World} (h : G2 bf bt w w') : G2 bf bt w w'.drew := h.trans ⟨rfl, rfl, rfl, Nat.le_refl _, fun _ _ _ _ => rfl⟩
theorem G2.setF {bf bt : Nat} {w w' : World} (h : G2 bf bt w w') (j : Nat) (v : Value) : G2 bf bt w (w'.setCell ⟨bf, j, none⟩ v) :=
  h.trans ⟨rfl, rfl, rfl, by simp [World.setCell], fun k _ hn _ => Below.heap_setCell _ _ _ _ hn⟩
theorem G2.setT {bf bt : Nat} {w w' : World} (h : G2 bf bt w w') (j : Nat) (v : Value) : G2 bf bt w (w'.setCell ⟨bt, j, none⟩ v) :=
  h.trans ⟨rfl, rfl, rfl, by simp [World.setCell], fun k _ _ hn => Below.heap_setCell _ _ _ _ hn⟩
theorem G2.alloc {bf bt : Nat} {w w' : World} (h : G2 bf bt w w') (o : Obj) : G2 bf bt w (w'.alloc o) := h.trans ⟨rfl, rfl, rfl, by simp, fun k hk _ _ => Below.heap_alloc _ _ _ hk⟩
theorem G2.keep {bf bt c : Nat} {w w' : World} {o : Obj} (h : G2 bf bt w w') (hc : w.heap[c]? = some o) (h1 : c ≠ bf) (h2 : c ≠ bt) : w'.heap[c]? = some o := by
  rw [h.block c (Array.getElem?_eq_some_iff.1 hc).1 h1 h2]; exact hc
theorem G2.below {bf bt B : Nat} {w w' : World} (h : G2 bf bt w w') (h1 : B ≤ bf) (h2 : B ≤ bt) (hs : bf < w.heap.size) : Below B w w' :=
  ⟨h.os, h.tape, h.output, h.size, fun k hk => h.block k (by omega) (by omega) (by omega)⟩
theorem wrap64_u8 (c : UInt8) : wrap64 (c.toNat : Int) = (c.toNat : Int) := by
  have := c.toNat_lt
  unfold wrap64; omega
set_option maxHeartbeats 400000 in
theorem next_any {w : World} {bf bt : Nat} {s : ByteArray} {x : TS} (h : TF w bf bt s x) (n : Nat) (h0 : 0 < n) (h1 : n ≤ 100) :
    Calls Tryz.prog 14 #[.pointer (some ⟨bf, 0, none⟩), .int .i64 (n : Int)] w fun e w' => e = .returned (.int .i64 (nxt s.data.toList x.a n : Nat)) ∧ TF w' bf bt s (x.eat s.data.toList) ∧ G2 bf bt w w' := by
  have H := hide h
  obtain ⟨c0, c1, c2, c3⟩ := h.cells
  obtain ⟨z0, z1, z2⟩ := h.free
  have hle := h.le
  have hsz := h.sz
  unfold maxLen at hsz
  clear h
  by_cases hlt : x.a < s.size
  · have hl : x.a < s.data.toList.length := by simpa using hlt
    have HN : Hid (nxt s.data.toList x.a n = s[x.a].toNat % n) := by show _ = _; unfold Pk.nxt; rw [dif_pos hl]; rfl
    have HA : Hid (x.eat s.data.toList = { x with a := x.a + 1 }) := by show _ = _; unfold Pk.TS.eat Pk.adv; rw [if_pos hl]
    go_enter Tryz.func14, Tryz.ntmps14
    go_wp2
    go_quiet (fail)
    go_wp2
    go_quiet (fail)
    go_wp2
    go_ret
    rw [HN.out, HA.out]
    refine ⟨?_, (H.out.drewN _).setA (x.a + 1) hlt, ((G2.refl _ _ _).drewN _).setF _ _⟩
    exact ret_int (by rw [wrap64_u8]; exact (Int.ofNat_tmod _ _).symm)
  · have HN : Hid (nxt s.data.toList x.a n = 0) := by show _ = _; unfold Pk.nxt; rw [dif_neg (by simpa using hlt)]
    have HA : Hid (x.eat s.data.toList = x) := by show _ = _; unfold Pk.TS.eat Pk.adv; rw [if_neg (by simpa using hlt)]
    go_enter Tryz.func14, Tryz.ntmps14
    go_wp2
    go_quiet (fail)
    go_wp2
    go_ret
    rw [HN.out, HA.out]
    exact ⟨rfl, H.out.drewN _, (G2.refl _ _ _).drewN _⟩
def LenOk (x : TS) : Prop := x.raw.length ≤ 1000000 ∧ x.plain.length ≤ 1000000
set_option maxHeartbeats 2000000 in
theorem word_any {w : World} {bf bt : Nat} {s : ByteArray} {x : TS} (h : TF w bf bt s x) (t : Pq.Bytes) (hx : LenOk x) (ht : t.length ≤ 100) :
    Calls Tryz.prog 52 #[.pointer (some ⟨bt, 0, none⟩), .pointer (some ⟨bf, 0, none⟩), .string ⟨t.toArray⟩] w fun e w' => e = .returned (.tuple #[]) ∧ TF w' bf bt s (Pk.wordS s.data.toList t x) ∧ G2 bf bt w w' := by
  have H := hide h
  obtain ⟨c0, c1, c2, c3⟩ := h.cells
  obtain ⟨z0, z1, z2⟩ := h.free
  obtain ⟨l1, l2⟩ := hx
  have hne := h.ne
  have hne' := h.ne.symm
  clear h
  by_cases hp : x.plain = []
  · rw [hp] at c3
    go_enter Tryz.func52, Tryz.ntmps52
    go_wp2_with fail
    refine (next_any H.out 6 (by omega) (by omega)).mono ?_
    rintro e w1 ⟨rfl, h1, g1⟩
    have H1 : Hid (TF w1 bf bt s ⟨adv s.data.toList x.a, x.raw, x.plain⟩) := h1
    have G1 := g1
    clear h1 g1 c0 c1 c2 c3 z0 z1 z2
    by_cases hq : nxt s.data.toList x.a 6 = 1
    · have hq' : ((nxt s.data.toList x.a 6 : Int) == 1) = true := by rw [hq]; rfl
      have HQ := hide hq
      clear hq
      obtain ⟨d0, d1, d2, d3⟩ := H1.out.cells
      obtain ⟨y0, y1, y2⟩ := H1.out.free
      go_wp2
      go_end0
      refine ⟨rfl, (((H1.out.setRaw _).setRaw _).setPlain _).is ?_, ((G1.setT _ _).setT _ _).setT _ _⟩
      simp [Pk.wordS, Pk.pre, hp, HQ.out]
    · have hq' : ((nxt s.data.toList x.a 6 : Int) == 1) = false := by rw [beq_eq_false_iff_ne]; omega
      have HQ := hide hq
      clear hq
      obtain ⟨d0, d1, d2, d3⟩ := H1.out.cells
      obtain ⟨y0, y1, y2⟩ := H1.out.free
      go_wp2
      go_end0
      refine ⟨rfl, ((H1.out.setRaw _).setPlain _).is ?_, (G1.setT _ _).setT _ _⟩
      simp [Pk.wordS, Pk.pre, hp, HQ.out]
  · have hp' : (x.plain == []) = false := by simpa using hp
    have HP := hide hp
    go_enter Tryz.func52, Tryz.ntmps52
    go_wp2_with fail
    have H0 := hide (((H.out.setRaw (⟨x.raw.toArray⟩ ++ ⟨#[32]⟩)).setPlain (⟨x.plain.toArray⟩ ++ ⟨#[32]⟩)).is (show _ = (⟨x.a, x.raw ++ [32], x.plain ++ [32]⟩ : TS) by simp))
    have l3 : (x.raw ++ [32]).length ≤ 1000001 := by simp; omega
    have l4 : (x.plain ++ [32]).length ≤ 1000001 := by simp; omega
    have G0 := ((G2.refl bf bt w).setT 0 (.string (⟨x.raw.toArray⟩ ++ ⟨#[32]⟩))).setT 1 (.string (⟨x.plain.toArray⟩ ++ ⟨#[32]⟩))
    refine (next_any H0.out 6 (by omega) (by omega)).mono ?_
    rintro e w1 ⟨rfl, h1, g1⟩
    have H1 : Hid (TF w1 bf bt s ⟨adv s.data.toList x.a, x.raw ++ [32], x.plain ++ [32]⟩) := h1
    have G1 := G0.trans g1
    clear h1 g1 c0 c1 c2 c3 z0 z1 z2 H0 G0
    by_cases hq : nxt s.data.toList x.a 6 = 1
    · have hq' : ((nxt s.data.toList x.a 6 : Int) == 1) = true := by rw [hq]; rfl
      have HQ := hide hq
      clear hq
      obtain ⟨d0, d1, d2, d3⟩ := H1.out.cells
      obtain ⟨y0, y1, y2⟩ := H1.out.free
      go_wp2
      go_end0
      refine ⟨rfl, (((H1.out.setRaw _).setRaw _).setPlain _).is ?_, ((G1.setT _ _).setT _ _).setT _ _⟩
      simp [Pk.wordS, Pk.pre, hp, HQ.out]
    · have hq' : ((nxt s.data.toList x.a 6 : Int) == 1) = false := by rw [beq_eq_false_iff_ne]; omega
      have HQ := hide hq
      clear hq
      obtain ⟨d0, d1, d2, d3⟩ := H1.out.cells
      obtain ⟨y0, y1, y2⟩ := H1.out.free
      go_wp2
      go_end0
      refine ⟨rfl, ((H1.out.setRaw _).setPlain _).is ?_, (G1.setT _ _).setT _ _⟩
      simp [Pk.wordS, Pk.pre, hp, HQ.out]
set_option maxHeartbeats 2000000 in
theorem glued_any {w : World} {bf bt : Nat} {s : ByteArray} {x : TS} (h : TF w bf bt s x) (t : Pq.Bytes) (hx : LenOk x) (ht : t.length ≤ 100) :
    Calls Tryz.prog 54 #[.pointer (some ⟨bt, 0, none⟩), .pointer (some ⟨bf, 0, none⟩), .string ⟨t.toArray⟩] w fun e w' => e = .returned (.tuple #[]) ∧ TF w' bf bt s (Pk.gluedS s.data.toList t x) ∧ G2 bf bt w w' := by
  have H := hide h
  obtain ⟨c0, c1, c2, c3⟩ := h.cells
  obtain ⟨z0, z1, z2⟩ := h.free
  obtain ⟨l1, l2⟩ := hx
  have hne := h.ne
  have hne' := h.ne.symm
  clear h
  go_enter Tryz.func54, Tryz.ntmps54
  go_wp2_with fail
  refine (next_any H.out 4 (by omega) (by omega)).mono ?_
  rintro e w1 ⟨rfl, h1, g1⟩
  have H1 : Hid (TF w1 bf bt s ⟨adv s.data.toList x.a, x.raw, x.plain⟩) := h1
  have G1 := g1
  clear h1 g1 c0 c1 c2 c3 z0 z1 z2
  by_cases hq : nxt s.data.toList x.a 4 = 1
  · have hq' : ((nxt s.data.toList x.a 4 : Int) == 1) = true := by rw [hq]; rfl
    have HQ := hide hq
    clear hq
    obtain ⟨d0, d1, d2, d3⟩ := H1.out.cells
    obtain ⟨y0, y1, y2⟩ := H1.out.free
    go_wp2
    go_end0
    refine ⟨rfl, (((H1.out.setRaw _).setRaw _).setPlain _).is ?_, ((G1.setT _ _).setT _ _).setT _ _⟩
    simp [Pk.gluedS, HQ.out]
  · have hq' : ((nxt s.data.toList x.a 4 : Int) == 1) = false := by rw [beq_eq_false_iff_ne]; omega
    have HQ := hide hq
    clear hq
    obtain ⟨d0, d1, d2, d3⟩ := H1.out.cells
    obtain ⟨y0, y1, y2⟩ := H1.out.free
    go_wp2
    go_end0
    refine ⟨rfl, ((H1.out.setRaw _).setPlain _).is ?_, (G1.setT _ _).setT _ _⟩
    simp [Pk.gluedS, HQ.out]
end Go.Proofs.YtcoofnhdbejnpaaGreatDoor

/- Package panesref: its leaves. -/
namespace Go.Proofs.YtcoofnhdbejnpaaGreatDoor
open Go.RowKit
/-- texts as cells -/
def strCells (ws : List Pq.Bytes) : List Value := ws.map (fun t => .string ⟨t.toArray⟩)
/-- a list of texts can be read behind a slice -/
def RdS (w : World) (v : Value) (ws : List Pq.Bytes) : Prop :=
  (v = .slice none 0 0 ∧ ws = []) ∨ ∃ g off cap cur, v = .slice (some ⟨g, off, none⟩) ws.length cap ∧ ws.length ≤ cap ∧ w.heap[g]? = some (.cells cur 9 (0, 0)) ∧ ∀ (j : Nat) (u : Value), (strCells ws)[j]? = some u → cur[off + j]? = some u
theorem RdS.cell {w : World} {g off n cap : Nat} {ws : List Pq.Bytes} (h : RdS w (.slice (some ⟨g, off, none⟩) n cap) ws) (j : Nat) (hj : j < ws.length) : w.cell? ⟨g, off + j, none⟩ = some (.string ⟨ws[j].toArray⟩) := by
  rcases h with ⟨h, _⟩ | ⟨g', off', cap', cur, h, _, hg, hc⟩
  · cases h
  · cases h
    simp only [World.cell?, hg]
    exact hc j _ (by simp [strCells, hj])
end Go.Proofs.YtcoofnhdbejnpaaGreatDoor

/- Package panesref: find, Tokens. -/
namespace Go.Proofs.YtcoofnhdbejnpaaGreatDoor
open Go.RowKit
/-- a token's two cells -/
def rtok (t : Pq.Tok) : List Value := [.string ⟨t.text.toArray⟩, .int .i64 (t.at' : Nat)]
def rtoks (ts : List Pq.Tok) : List Value := ts.flatMap rtok
theorem rtoks_get : ∀ (ts : List Pq.Tok) (n : Nat) (h : n < ts.length), (rtoks ts)[n * 2]? = some (.string ⟨ts[n].text.toArray⟩) ∧ (rtoks ts)[n * 2 + 1]? = some (.int .i64 (ts[n].at' : Int))
  | [], _, h => by simp at h
  | t :: ts, 0, _ => by simp [rtoks, rtok]
  | t :: ts, n + 1, h => by
    have ih := rtoks_get ts n (by simpa using h)
    have e1 : (n + 1) * 2 = n * 2 + 2 := by omega
    simp only [rtoks, List.flatMap_cons, List.getElem_cons_succ] at ih ⊢
    have e : (rtok t).length = 2 := rfl
    rw [e1, List.getElem?_append_right (by omega), List.getElem?_append_right (by omega), e]
    have a1 : n * 2 + 2 - 2 = n * 2 := by omega
    have a2 : n * 2 + 2 + 1 - 2 = n * 2 + 1 := by omega
    rw [a1, a2]
    exact ih
/-- a list of tokens can be read behind a slice -/
def RdT (w : World) (v : Value) (ts : List Pq.Tok) : Prop :=
  (v = .slice none 0 0 ∧ ts = []) ∨ ∃ g off cap cur, v = .slice (some ⟨g, off, none⟩) ts.length cap ∧ ts.length ≤ cap ∧ w.heap[g]? = some (.cells cur 183 (0, 0)) ∧ ∀ (j : Nat) (u : Value), (rtoks ts)[j]? = some u → cur[off + j]? = some u
theorem RdT.cell {w : World} {g off n cap : Nat} {ts : List Pq.Tok} (h : RdT w (.slice (some ⟨g, off, none⟩) n cap) ts) (j : Nat) (hj : j < ts.length) : w.cell? ⟨g, off + j * 2, none⟩ = some (.string ⟨ts[j].text.toArray⟩) ∧ w.cell? ⟨g, off + j * 2 + 1, none⟩ = some (.int .i64 (ts[j].at' : Int)) := by
  rcases h with ⟨h, _⟩ | ⟨g', off', cap', cur, h, _, hg, hc⟩
  · cases h
  · cases h
    obtain ⟨h1, h2⟩ := rtoks_get ts j hj
    simp only [World.cell?, hg]
    exact ⟨hc _ _ h1, by rw [Nat.add_assoc]; exact hc _ _ h2⟩
end Go.Proofs.YtcoofnhdbejnpaaGreatDoor

/- Package queries: the parser with the three lists that it owns. -/
namespace Go.Proofs.YtcoofnhdbejnpaaGreatDoor
open Go.RowKit
def colCells (l : List Nat) : List Value := l.map (fun c : Nat => Value.int .i64 (c : Int))
def keyCells (l : List (Nat × Bool)) : List Value := l.flatMap (fun k : Nat × Bool => [Value.int .i64 (k.1 : Int), .bool k.2])
def fnCell (f : Pq.Fn) : List Value := [.int .i64 (f.kind : Int), .int .i64 (f.col : Int), .int .i64 f.num, .int .i64 (f.frame.kind : Int), .int .i64 f.frame.num, .int .i64 (f.frame.frm.kind : Int), .int .i64 f.frame.frm.num, .int .i64 (f.frame.to.kind : Int), .int .i64 f.frame.to.num]
def fnCells (l : List Pq.Fn) : List Value := l.flatMap fnCell
theorem own_block {w : World} {B T n : Nat} {v : Value} {k : Nat} {xs : List Value} (h : w.ownsRow B T n v k xs) {c : Nat} (hc : v.ownBlock = some c) : ∃ cur, w.heap[c]? = some (.cells cur T (0, 0)) ∧ B ≤ c := by
  rcases h.2 with ⟨rfl, _⟩ | ⟨g, cap, cur, rfl, hb, hg, _⟩
  · simp [Value.ownBlock] at hc
  · simp [Value.ownBlock] at hc; subst hc; exact ⟨cur, hg, hb⟩
theorem own_ne {w : World} {B T n : Nat} {v : Value} {k : Nat} {xs : List Value} (h : w.ownsRow B T n v k xs) {c T' : Nat} {cs : Array Value} {fr : Nat × Nat} (hc : w.heap[c]? = some (.cells cs T' fr)) (hT : T ≠ T') : v.ownBlock ≠ some c := by
  intro e
  obtain ⟨cur, hcur, _⟩ := own_block h e
  rw [hc] at hcur
  simp at hcur
  exact hT hcur.2.1.symm
theorem own_sep {w : World} {B T n B' T' n' : Nat} {v v' : Value} {k k' : Nat} {xs xs' : List Value} (h : w.ownsRow B T n v k xs) (h' : w.ownsRow B' T' n' v' k' xs') (hT : T ≠ T') : v.ownBlock = none ∨ v.ownBlock ≠ v'.ownBlock := by
  cases hv : v.ownBlock with
  | none => exact .inl rfl
  | some c =>
    refine .inr fun e => ?_
    obtain ⟨cur, hcur, _⟩ := own_block h hv
    obtain ⟨cur', hcur', _⟩ := own_block h' e.symm
    rw [hcur] at hcur'
    simp at hcur'
    exact hT hcur'.2
theorem own_Gb {w w' : World} {B T n : Nat} {v : Value} {k : Nat} {xs : List Value} (h : w.ownsRow B T n v k xs) {b T' : Nat} {cs : Array Value} {fr : Nat × Nat} (hc : w.heap[b]? = some (.cells cs T' fr)) (hT : T ≠ T') (hg : Gb b w w') : w'.ownsRow B T n v k xs :=
  h.kept hg (.inr (own_ne h hc hT))
structure PAl (w : World) (B b g cap len : Nat) (toks : List Pq.Tok) (vb vk vf : Value) (s : Pq.PS) : Prop where
  pin : PIn w b g cap len toks vb vk vf s
  oby : w.ownsRow B 215 1 vb s.by'.length (colCells s.by')
  okey : w.ownsRow B 253 2 vk s.keys.length (keyCells s.keys)
  ofun : w.ownsRow B 223 9 vf s.funcs.length (fnCells s.funcs)
  lby : s.by'.length ≤ s.next + 1
  lkey : s.keys.length ≤ s.next + 1
  lfun : s.funcs.length ≤ s.next + 1
  hB : B ≤ b
/-- the same lists, another place: behind a step that turns block b alone -/
theorem PAl.moved {w w' : World} {B b g cap len : Nat} {toks : List Pq.Tok} {vb vk vf : Value} {s s' : Pq.PS} (h : PAl w B b g cap len toks vb vk vf s) (hp : PIn w' b g cap len toks vb vk vf s') (hg : Gb b w w')
    (e1 : s'.by' = s.by') (e2 : s'.keys = s.keys) (e3 : s'.funcs = s.funcs) (hn : s.next ≤ s'.next) : PAl w' B b g cap len toks vb vk vf s' := by
  refine ⟨hp, ?_, ?_, ?_, ?_, ?_, ?_, h.hB⟩
  · rw [e1]; exact own_Gb h.oby h.pin.blk (by decide) hg
  · rw [e2]; exact own_Gb h.okey h.pin.blk (by decide) hg
  · rw [e3]; exact own_Gb h.ofun h.pin.blk (by decide) hg
  · rw [e1]; have := h.lby; omega
  · rw [e2]; have := h.lkey; omega
  · rw [e3]; have := h.lfun; omega
theorem Gb.below {b B : Nat} {w w' : World} (h : Gb b w w') (hB : B ≤ b) (hs : b < w.heap.size) : Below B w w' :=
  ⟨h.os, h.tape, h.output, h.size, fun k hk => h.block k (by omega) (by simp; omega)⟩
theorem own_cells {w : World} {B T n : Nat} {g cap k : Nat} {xs : List Value} (h : w.ownsRow B T n (.slice (some ⟨g, 0, none⟩) k cap) k xs) (j : Nat) (u : Value) (hu : xs[j]? = some u) : w.cell? ⟨g, j, none⟩ = some u := by
  have := h.cells (g := g) rfl j u hu
  have hadd : (⟨g, 0, none⟩ : Addr).add j = ⟨g, j, none⟩ := by unfold Addr.add; split <;> simp_all
  rwa [hadd] at this
theorem own_form {w : World} {B T n : Nat} {v : Value} {k : Nat} {xs : List Value} (h : w.ownsRow B T n v k xs) : (v = .slice none 0 0 ∧ k = 0) ∨ ∃ g cap, v = .slice (some ⟨g, 0, none⟩) k cap := by
  rcases h.2 with h' | ⟨g, cap, cur, rfl, _⟩
  · exact .inl h'
  · exact .inr ⟨g, cap, rfl⟩
theorem keyCells_get : ∀ (l : List (Nat × Bool)) (n : Nat) (h : n < l.length), (keyCells l)[n * 2]? = some (.int .i64 (l[n].1 : Int)) ∧ (keyCells l)[n * 2 + 1]? = some (.bool l[n].2)
  | [], _, h => by simp at h
  | t :: ts, 0, _ => by simp [keyCells]
  | t :: ts, n + 1, h => by
    have ih := keyCells_get ts n (by simpa using h)
    have e1 : (n + 1) * 2 = n * 2 + 2 := by omega
    simp only [keyCells, List.flatMap_cons, List.getElem_cons_succ] at ih ⊢
    rw [e1, List.getElem?_append_right (by simp), List.getElem?_append_right (by simp)]
    simpa using ih
set_option maxHeartbeats 400000 in
theorem hasCol_any {w : World} {B : Nat} {v : Value} {l : List Nat} (h : w.ownsRow B 215 1 v l.length (colCells l)) (hl : l.length ≤ 1000) (c : Nat) :
    Calls Tryz.prog 168 #[v, .int .i64 (c : Int)] w fun e w' => e = .returned (.bool (Pq.hasC l c)) ∧ w = w' := by
  rcases own_form h with ⟨rfl, h0⟩ | ⟨g, cap, rfl⟩
  · have HR : Hid (Pq.hasC l c = false) := Pq.hasC_false (fun j hj => by omega)
    clear h
    go_enter Tryz.func168, Tryz.ntmps168
    go_wp2
    refine wp_loop_rounds 1 ?_; rw [rounds_succ]
    go_wp2
    go_ret
    exact ⟨by rw [HR.out]; rfl, rfl⟩
  · have hc : ∀ (k : Nat) (hk : k < l.length), w.cell? ⟨g, k, none⟩ = some (.int .i64 (l[k] : Int)) := by
      intro k hk
      exact own_cells h k _ (by simp [colCells, hk])
    clear h
    have HC := hide hc
    clear hc
    go_enter Tryz.func168, Tryz.ntmps168
    go_wp2
    go_loop [5] (fun i => ∃ k : Nat, k ≤ l.length ∧ i = .int .i64 k ∧ Hid (∀ j (hj : j < l.length), j < k → l[j] ≠ c)) (fun i => l.length - (intOf i).toNat)
    case atStart => exact ⟨0, by omega, rfl, fun j hj h => by omega⟩
    case round =>
      obtain ⟨k, hk, rfl, HN⟩ := hrel
      by_cases hlt : k < l.length
      · have hck := HC.out k hlt
        by_cases he : l[k] = c
        · have he' : ((l[k] : Int) == (c : Int)) = true := by rw [he]; simp
          have HR := hide (Pq.hasC_true hlt he)
          clear he
          go_wp2
          go_ret
          exact ⟨by rw [HR.out]; rfl, rfl⟩
        · have he' : ((l[k] : Int) == (c : Int)) = false := by rw [beq_eq_false_iff_ne]; intro h'; exact he (by omega)
          have HE := hide he
          clear he
          go_wp2
          go_round
          case rel =>
            refine ⟨k + 1, by omega, by go_num, fun j hj hjk => ?_⟩
            rcases Nat.lt_or_eq_of_le (Nat.le_of_lt_succ hjk) with h' | h'
            · exact HN.out j hj h'
            · subst h'; exact HE.out
          case measure => simp [intOf]; omega
      · have HR : Hid (Pq.hasC l c = false) := Pq.hasC_false (fun j hj => HN.out j hj (by omega))
        go_wp2
        go_ret
        exact ⟨by rw [HR.out]; rfl, rfl⟩
set_option maxHeartbeats 400000 in
theorem hasKey_any {w : World} {B : Nat} {v : Value} {l : List (Nat × Bool)} (h : w.ownsRow B 253 2 v l.length (keyCells l)) (hl : l.length ≤ 1000) (c : Nat) :
    Calls Tryz.prog 170 #[v, .int .i64 (c : Int)] w fun e w' => e = .returned (.bool (Pq.hasK l c)) ∧ w = w' := by
  rcases own_form h with ⟨rfl, h0⟩ | ⟨g, cap, rfl⟩
  · have HR : Hid (Pq.hasK l c = false) := Pq.hasK_false (fun j hj => by omega)
    clear h
    go_enter Tryz.func170, Tryz.ntmps170
    go_wp2
    refine wp_loop_rounds 1 ?_; rw [rounds_succ]
    go_wp2
    go_ret
    exact ⟨by rw [HR.out]; rfl, rfl⟩
  · have hc : ∀ (k : Nat) (hk : k < l.length), w.cell? ⟨g, k * 2, none⟩ = some (.int .i64 (l[k].1 : Int)) := by
      intro k hk
      exact own_cells h (k * 2) _ (keyCells_get l k hk).1
    clear h
    have HC := hide hc
    clear hc
    go_enter Tryz.func170, Tryz.ntmps170
    go_wp2
    go_loop [5] (fun i => ∃ k : Nat, k ≤ l.length ∧ i = .int .i64 k ∧ Hid (∀ j (hj : j < l.length), j < k → l[j].1 ≠ c)) (fun i => l.length - (intOf i).toNat)
    case atStart => exact ⟨0, by omega, rfl, fun j hj h => by omega⟩
    case round =>
      obtain ⟨k, hk, rfl, HN⟩ := hrel
      by_cases hlt : k < l.length
      · have hck := HC.out k hlt
        by_cases he : l[k].1 = c
        · have he' : ((l[k].1 : Int) == (c : Int)) = true := by rw [he]; simp
          have HR := hide (Pq.hasK_true hlt he)
          clear he
          go_wp2
          go_ret
          exact ⟨by rw [HR.out]; rfl, rfl⟩
        · have he' : ((l[k].1 : Int) == (c : Int)) = false := by rw [beq_eq_false_iff_ne]; intro h'; exact he (by omega)
          have HE := hide he
          clear he
          go_wp2
          go_round
          case rel =>
            refine ⟨k + 1, by omega, by go_num, fun j hj hjk => ?_⟩
            rcases Nat.lt_or_eq_of_le (Nat.le_of_lt_succ hjk) with h' | h'
            · exact HN.out j hj h'
            · subst h'; exact HE.out
          case measure => simp [intOf]; omega
      · have HR : Hid (Pq.hasK l c = false) := Pq.hasK_false (fun j hj => HN.out j hj (by omega))
        go_wp2
        go_ret
        exact ⟨by rw [HR.out]; rfl, rfl⟩
end Go.Proofs.YtcoofnhdbejnpaaGreatDoor

/- Package queries: readBy. -/
namespace Go.Proofs.YtcoofnhdbejnpaaGreatDoor
open Go.RowKit
theorem PIn.cells3 {w : World} {b g cap len : Nat} {toks : List Pq.Tok} {vb vk vf : Value} {s : Pq.PS} (h : PIn w b g cap len toks vb vk vf s) : w.cell? ⟨b, 4, none⟩ = some vb ∧ w.cell? ⟨b, 5, none⟩ = some vk ∧ w.cell? ⟨b, 6, none⟩ = some vf := by
  simp [World.cell?, h.blk, psCells]
theorem PAl.pushBy {w : World} {B b g cap len : Nat} {toks : List Pq.Tok} {vb vk vf : Value} {s : Pq.PS} (h : PAl w B b g cap len toks vb vk vf s) (o : Obj) {w5 : World} {g1 cap1 : Nat} (x : Nat) (hown : w5.ownsRow B 215 1 (.slice (some ⟨g1, 0, none⟩) (s.by'.length + 1) cap1) (s.by'.length + 1) (colCells s.by' ++ [.int .i64 (x : Int)]))
    (hgrow : (w.alloc o).drew.grownBy w5 vb.ownBlock) (hl : s.by'.length ≤ s.next) (hBs : B ≤ w.heap.size) :
    PIn w5 b g cap len toks vb vk vf s ∧ PAl (w5.setCell ⟨b, 4, none⟩ (.slice (some ⟨g1, 0, none⟩) (s.by'.length + 1) cap1)) B b g cap len toks (.slice (some ⟨g1, 0, none⟩) (s.by'.length + 1) cap1) vk vf { s with by' := s.by' ++ [x] } ∧ Below B w (w5.setCell ⟨b, 4, none⟩ (.slice (some ⟨g1, 0, none⟩) (s.by'.length + 1) cap1)) := by
  have ha := (h.pin.alloc o).drew
  have hnb := own_ne h.oby h.pin.blk (by decide)
  obtain ⟨cur, hgc, _⟩ := h.pin.row
  have hng := own_ne h.oby hgc (by decide)
  have p5 : PIn w5 b g cap len toks vb vk vf s := ha.congr (hgrow.block b ha.lt.1 (Ne.symm hnb)) (hgrow.block g ha.lt.2 (Ne.symm hng))
  have p6 : PIn (w5.setCell ⟨b, 4, none⟩ (.slice (some ⟨g1, 0, none⟩) (s.by'.length + 1) cap1)) b g cap len toks (.slice (some ⟨g1, 0, none⟩) (s.by'.length + 1) cap1) vk vf { s with by' := s.by' ++ [x] } := p5.set 4 _ _ _ _ _ (by simp [psCells]) p5.le
  have G6 : Gb b w5 (w5.setCell ⟨b, 4, none⟩ (.slice (some ⟨g1, 0, none⟩) (s.by'.length + 1) cap1)) := (Gb.refl b w5).set _ _
  have kokey := own_Gb ((h.okey.alloc o).drew.kept hgrow (own_sep h.okey h.oby (by decide))) p5.blk (by decide) G6
  have kofun := own_Gb ((h.ofun.alloc o).drew.kept hgrow (own_sep h.ofun h.oby (by decide))) p5.blk (by decide) G6
  refine ⟨p5, ?_, ?_⟩
  · refine ⟨p6, ?_, ?_, ?_, ?_, ?_, ?_, h.hB⟩
    · have := own_Gb hown p5.blk (by decide) G6
      simpa [colCells] using this
    · exact kokey
    · exact kofun
    · simp only [List.length_append, List.length_cons, List.length_nil]; omega
    · exact h.lkey
    · exact h.lfun
  · exact (((Below.refl B w).alloc hBs o).drew.grown hgrow (by simp; omega) (fun k hk => (own_block h.oby hk).elim fun _ hx => hx.2)).setCell h.hB _

theorem PAl.pushKey {w : World} {B b g cap len : Nat} {toks : List Pq.Tok} {vb vk vf : Value} {s : Pq.PS} (h : PAl w B b g cap len toks vb vk vf s) (o : Obj) {w5 : World} {g1 cap1 : Nat} (x : Nat × Bool) (hown : w5.ownsRow B 253 2 (.slice (some ⟨g1, 0, none⟩) (s.keys.length + 1) cap1) (s.keys.length + 1) (keyCells s.keys ++ [.int .i64 (x.1 : Int), .bool x.2]))
    (hgrow : (w.alloc o).drew.grownBy w5 vk.ownBlock) (hl : s.keys.length ≤ s.next) (hBs : B ≤ w.heap.size) :
    PIn w5 b g cap len toks vb vk vf s ∧ PAl (w5.setCell ⟨b, 5, none⟩ (.slice (some ⟨g1, 0, none⟩) (s.keys.length + 1) cap1)) B b g cap len toks vb (.slice (some ⟨g1, 0, none⟩) (s.keys.length + 1) cap1) vf { s with keys := s.keys ++ [x] } ∧ Below B w (w5.setCell ⟨b, 5, none⟩ (.slice (some ⟨g1, 0, none⟩) (s.keys.length + 1) cap1)) := by
  have ha := (h.pin.alloc o).drew
  have hnb := own_ne h.okey h.pin.blk (by decide)
  obtain ⟨cur, hgc, _⟩ := h.pin.row
  have hng := own_ne h.okey hgc (by decide)
  have p5 : PIn w5 b g cap len toks vb vk vf s := ha.congr (hgrow.block b ha.lt.1 (Ne.symm hnb)) (hgrow.block g ha.lt.2 (Ne.symm hng))
  have p6 : PIn (w5.setCell ⟨b, 5, none⟩ (.slice (some ⟨g1, 0, none⟩) (s.keys.length + 1) cap1)) b g cap len toks vb (.slice (some ⟨g1, 0, none⟩) (s.keys.length + 1) cap1) vf { s with keys := s.keys ++ [x] } := p5.set 5 _ _ _ _ _ (by simp [psCells]) p5.le
  have G6 : Gb b w5 (w5.setCell ⟨b, 5, none⟩ (.slice (some ⟨g1, 0, none⟩) (s.keys.length + 1) cap1)) := (Gb.refl b w5).set _ _
  have koby := own_Gb ((h.oby.alloc o).drew.kept hgrow (own_sep h.oby h.okey (by decide))) p5.blk (by decide) G6
  have kofun := own_Gb ((h.ofun.alloc o).drew.kept hgrow (own_sep h.ofun h.okey (by decide))) p5.blk (by decide) G6
  refine ⟨p5, ?_, ?_⟩
  · refine ⟨p6, ?_, ?_, ?_, ?_, ?_, ?_, h.hB⟩
    · exact koby
    · have := own_Gb hown p5.blk (by decide) G6
      simpa [keyCells] using this
    · exact kofun
    · exact h.lby
    · simp only [List.length_append, List.length_cons, List.length_nil]; omega
    · exact h.lfun
  · exact (((Below.refl B w).alloc hBs o).drew.grown hgrow (by simp; omega) (fun k hk => (own_block h.okey hk).elim fun _ hx => hx.2)).setCell h.hB _

theorem PAl.pushFun {w : World} {B b g cap len : Nat} {toks : List Pq.Tok} {vb vk vf : Value} {s : Pq.PS} (h : PAl w B b g cap len toks vb vk vf s) (o : Obj) {w5 : World} {g1 cap1 : Nat} (x : Pq.Fn) (hown : w5.ownsRow B 223 9 (.slice (some ⟨g1, 0, none⟩) (s.funcs.length + 1) cap1) (s.funcs.length + 1) (fnCells s.funcs ++ fnCell x))
    (hgrow : (w.alloc o).drew.grownBy w5 vf.ownBlock) (hl : s.funcs.length ≤ s.next) (hBs : B ≤ w.heap.size) :
    PIn w5 b g cap len toks vb vk vf s ∧ PAl (w5.setCell ⟨b, 6, none⟩ (.slice (some ⟨g1, 0, none⟩) (s.funcs.length + 1) cap1)) B b g cap len toks vb vk (.slice (some ⟨g1, 0, none⟩) (s.funcs.length + 1) cap1) { s with funcs := s.funcs ++ [x] } ∧ Below B w (w5.setCell ⟨b, 6, none⟩ (.slice (some ⟨g1, 0, none⟩) (s.funcs.length + 1) cap1)) := by
  have ha := (h.pin.alloc o).drew
  have hnb := own_ne h.ofun h.pin.blk (by decide)
  obtain ⟨cur, hgc, _⟩ := h.pin.row
  have hng := own_ne h.ofun hgc (by decide)
  have p5 : PIn w5 b g cap len toks vb vk vf s := ha.congr (hgrow.block b ha.lt.1 (Ne.symm hnb)) (hgrow.block g ha.lt.2 (Ne.symm hng))
  have p6 : PIn (w5.setCell ⟨b, 6, none⟩ (.slice (some ⟨g1, 0, none⟩) (s.funcs.length + 1) cap1)) b g cap len toks vb vk (.slice (some ⟨g1, 0, none⟩) (s.funcs.length + 1) cap1) { s with funcs := s.funcs ++ [x] } := p5.set 6 _ _ _ _ _ (by simp [psCells]) p5.le
  have G6 : Gb b w5 (w5.setCell ⟨b, 6, none⟩ (.slice (some ⟨g1, 0, none⟩) (s.funcs.length + 1) cap1)) := (Gb.refl b w5).set _ _
  have koby := own_Gb ((h.oby.alloc o).drew.kept hgrow (own_sep h.oby h.ofun (by decide))) p5.blk (by decide) G6
  have kokey := own_Gb ((h.okey.alloc o).drew.kept hgrow (own_sep h.okey h.ofun (by decide))) p5.blk (by decide) G6
  refine ⟨p5, ?_, ?_⟩
  · refine ⟨p6, ?_, ?_, ?_, ?_, ?_, ?_, h.hB⟩
    · exact koby
    · exact kokey
    · have := own_Gb hown p5.blk (by decide) G6
      simpa [fnCells] using this
    · exact h.lby
    · exact h.lkey
    · simp only [List.length_append, List.length_cons, List.length_nil]; omega
  · exact (((Below.refl B w).alloc hBs o).drew.grown hgrow (by simp; omega) (fun k hk => (own_block h.ofun hk).elim fun _ hx => hx.2)).setCell h.hB _

/-- the place at which the parser in block b stands -/
def nextAt (w : World) (b : Nat) : Nat := match w.cell? ⟨b, 2, none⟩ with | some v => (intOf v).toNat | none => 0
theorem PIn.nextAt {w : World} {b g cap len : Nat} {toks : List Pq.Tok} {vb vk vf : Value} {s : Pq.PS} (h : PIn w b g cap len toks vb vk vf s) : nextAt w b = s.next := by unfold Go.Proofs.YtcoofnhdbejnpaaGreatDoor.nextAt; rw [h.cells.2.2.1]; simp [intOf]
/-- a measure for a loop that goes on while a token is taken -/
def moreM (n : Nat) : Value → Nat → Nat | .bool true, k => n + 1 - k | _, _ => 0
theorem grown_drew {w w' : World} {r : Option Nat} (h : w.grownBy w' r) : w.drew.grownBy w' r := ⟨h.os, h.tape, h.output, h.size, h.block⟩
end Go.Proofs.YtcoofnhdbejnpaaGreatDoor

