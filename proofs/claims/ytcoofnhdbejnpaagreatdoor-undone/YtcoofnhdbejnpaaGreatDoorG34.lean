/- Package paneskeep: next, rowOf. -/
import Derived.Test.YtcoofnhdbejnpaaGreatDoorG07
import Derived.Test.YtcoofnhdbejnpaaGreatDoorG18
import Derived.Test.YtcoofnhdbejnpaaGreatDoorG33
namespace Go.Proofs.YtcoofnhdbejnpaaGreatDoor
open Go.RowKit
open Pk (nxt adv)
/-- a feed in memory -/
structure FD (w : World) (bf : Nat) (s : ByteArray) (a : Nat) : Prop where
  feed : w.heap[bf]? = some (.cells #[.string s, .int .i64 (a : Int)] 31 (0, 0))
  le : a ≤ s.size
  sz : s.size ≤ maxLen
theorem FD.below {w w' : World} {bf a : Nat} {s : ByteArray} (h : FD w bf s a) (hb : Below w.heap.size w w') : FD w' bf s a := ⟨(hb.block bf (Array.getElem?_eq_some_iff.1 h.feed).1).trans h.feed, h.le, h.sz⟩
theorem FD.but {w w' : World} {bf a : Nat} {s : ByteArray} {S : Nat → Prop} (h : FD w bf s a) (hb : But S w w') (hn : ¬ S bf) : FD w' bf s a := ⟨(hb.block bf (Array.getElem?_eq_some_iff.1 h.feed).1 hn).trans h.feed, h.le, h.sz⟩
theorem FD.lt {w : World} {bf a : Nat} {s : ByteArray} (h : FD w bf s a) : bf < w.heap.size := (Array.getElem?_eq_some_iff.1 h.feed).1
theorem set21 {W : World} {b : Nat} {v0 v1 : Value} {T : Nat} (h : W.heap[b]? = some (.cells #[v0, v1] T (0, 0))) (y : Value) : (W.setCell ⟨b, 1, none⟩ y).heap[b]? = some (.cells #[v0, y] T (0, 0)) := by
  simp [World.setCell, Array.getElem?_modify, h]
theorem But.drewN {S : Nat → Prop} {w w6 : World} (h : But S w w6) (n : Nat) : But S w (w6.drewN n) := ⟨h.os, h.tape, h.output, h.size, h.block⟩
set_option maxHeartbeats 400000 in
theorem fnext_any {w : World} {bf a : Nat} {s : ByteArray} (h : FD w bf s a) (n : Nat) (h0 : 0 < n) (h1 : n ≤ 100) :
    Calls Tryz.prog 14 #[.pointer (some ⟨bf, 0, none⟩), .int .i64 (n : Int)] w fun e w' => e = .returned (.int .i64 (nxt s.data.toList a n : Nat)) ∧ FD w' bf s (adv s.data.toList a) ∧ But (fun k => k = bf) w w' := by
  have H := hide h
  have c0 : w.cell? ⟨bf, 0, none⟩ = some (.string s) := cell_of_heap h.feed 0
  have c1 : w.cell? ⟨bf, 1, none⟩ = some (.int .i64 (a : Int)) := cell_of_heap h.feed 1
  have z1 := free_of_heap h.feed 1
  have hle := h.le
  have hsz := h.sz
  unfold maxLen at hsz
  clear h
  by_cases hlt : a < s.size
  · have hl : a < s.data.toList.length := by simpa using hlt
    have HN : Hid (nxt s.data.toList a n = s[a].toNat % n) := by show _ = _; unfold Pk.nxt; rw [dif_pos hl]; rfl
    have HA : Hid (adv s.data.toList a = a + 1) := by show _ = _; unfold Pk.adv; rw [if_pos hl]
    go_enter Tryz.func14, Tryz.ntmps14
    go_wp2
    go_quiet (fail)
    go_wp2
    go_quiet (fail)
    go_wp2
    go_ret
    rw [HN.out, HA.out]
    refine ⟨?_, ⟨set21 H.out.feed _, hlt, H.out.sz⟩, ((But.refl _ w).drewN _).setIn bf 1 _ (fun _ => rfl)⟩
    exact ret_int (by rw [wrap64_u8]; exact (Int.ofNat_tmod _ _).symm)
  · have HN : Hid (nxt s.data.toList a n = 0) := by show _ = _; unfold Pk.nxt; rw [dif_neg (by simpa using hlt)]
    have HA : Hid (adv s.data.toList a = a) := by show _ = _; unfold Pk.adv; rw [if_neg (by simpa using hlt)]
    go_enter Tryz.func14, Tryz.ntmps14
    go_wp2
    go_quiet (fail)
    go_wp2
    go_ret
    rw [HN.out, HA.out]
    exact ⟨rfl, ⟨H.out.feed, H.out.le, H.out.sz⟩, (But.refl _ w).drewN _⟩
theorem fnext3 {w : World} {bf a : Nat} {s : ByteArray} (h : FD w bf s a) (n : Nat) (m : Int) (hm : m = n) (h0 : 0 < n) (h1 : n ≤ 100) :
    Calls Tryz.prog 14 #[.pointer (some ⟨bf, 0, none⟩), .int .i64 m] w fun e w' => e = .returned (.int .i64 (nxt s.data.toList a n : Nat)) ∧ FD w' bf s (adv s.data.toList a) ∧ But (fun k => k = bf) w w' := by
  subst hm; exact fnext_any h n h0 h1
theorem But.ofB {S : Nat → Prop} {w w1 : World} (hb : Below w.heap.size w w1) : But S w w1 := (But.refl S w).of hb
theorem blk_but {w w' : World} {S : Nat → Prop} {b : Nat} {cs : Array Value} {T : Nat} (h : Blk w b cs T) (hb : But S w w') (hn : ¬ S b) : Blk w' b cs T := (hb.block b (Array.getElem?_eq_some_iff.1 h).1 hn).trans h
theorem But.same {S : Nat → Prop} {w w1 w2 : World} (h : But S w w1) (k : But S w1 w2) : But S w w2 := (h.trans k).weak (fun i _ hs => by
  rcases hs with h | h
  · exact h
  · exact h.1)
theorem setB3 {W : World} {b : Nat} {v0 v1 v2 : Value} {T : Nat} (h : Blk W b #[v0, v1, v2] T) (x0 x1 x2 : Value) : Blk (((W.setCell ⟨b, 0, none⟩ x0).setCell ⟨b, 1, none⟩ x1).setCell ⟨b, 2, none⟩ x2) b #[x0, x1, x2] T := by
  have h' : W.heap[b]? = some (.cells #[v0, v1, v2] T (0, 0)) := h
  simp [Blk, World.setCell, Array.getElem?_modify, h']
theorem setB32 {W : World} {b : Nat} {v0 v1 v2 : Value} {T : Nat} (h : Blk W b #[v0, v1, v2] T) (x2 : Value) : Blk (W.setCell ⟨b, 2, none⟩ x2) b #[v0, v1, x2] T := by
  have h' : W.heap[b]? = some (.cells #[v0, v1, v2] T (0, 0)) := h
  simp [Blk, World.setCell, Array.getElem?_modify, h']
def RowPost (w : World) (bf a : Nat) (s : ByteArray) (e : Ending) (w' : World) : Prop :=
  e = .returned (.agg #[.int .i64 (Pk.rowF s.data.toList a).1.1, .int .i64 (Pk.rowF s.data.toList a).1.2.1, .int .i64 (Pk.rowF s.data.toList a).1.2.2]) ∧ FD w' bf s (Pk.rowF s.data.toList a).2 ∧ But (fun k => k = bf) w w'
set_option maxRecDepth 100000 in
set_option maxHeartbeats 2000000 in
theorem rowOf_any {w : World} {bf a : Nat} {s : ByteArray} (h : FD w bf s a) : Calls Tryz.prog 57 #[.pointer (some ⟨bf, 0, none⟩)] w fun e w' => RowPost w bf a s e w' := by
  have H := hide h
  have hbl := h.lt
  clear h
  have HR : Hid (Pk.rowF s.data.toList a = ((((nxt s.data.toList a 3 : Nat) : Int), 10 * ((nxt s.data.toList (adv s.data.toList a) 4 : Nat) : Int), if nxt s.data.toList (adv s.data.toList (adv s.data.toList (adv s.data.toList a))) 20 = 1 then 1000 - 2000 * ((nxt s.data.toList (adv s.data.toList (adv s.data.toList (adv s.data.toList (adv s.data.toList a)))) 2 : Nat) : Int) else ((nxt s.data.toList (adv s.data.toList (adv s.data.toList a)) 5 : Nat) : Int) - 2), if nxt s.data.toList (adv s.data.toList (adv s.data.toList (adv s.data.toList a))) 20 = 1 then adv s.data.toList (adv s.data.toList (adv s.data.toList (adv s.data.toList (adv s.data.toList a)))) else adv s.data.toList (adv s.data.toList (adv s.data.toList (adv s.data.toList a))))) := rfl
  go_enter Tryz.func57, Tryz.ntmps57
  go_upto_region 1 with fail
  have C0 := hide (K1.start w #[.int .i64 0, .int .i64 0, .int .i64 0] 48)
  generalize w.alloc (.cells #[.int .i64 0, .int .i64 0, .int .i64 0] 48) = w0 at *
  have F0 := hide (H.out.below C0.out.bl)
  have hs0 := C0.out.size
  go_wp2_with fail
  refine (fnext3 F0.out 3 3 rfl (by omega) (by omega)).mono ?_
  rintro e w1 ⟨rfl, f1, b1⟩
  have F1 := hide f1
  have U1 := hide b1
  have n1 := Pk.nxt_lt s.data.toList a 3 (by omega)
  generalize adv s.data.toList a = a1 at *
  generalize nxt s.data.toList a 3 = p at *
  clear f1 b1
  go_wp2_with fail
  refine (fnext3 F1.out 4 4 rfl (by omega) (by omega)).mono ?_
  rintro e w2 ⟨rfl, f2, b2⟩
  have F2 := hide f2
  have U2 := hide (U1.out.same b2)
  have n2 := Pk.nxt_lt s.data.toList a1 4 (by omega)
  generalize adv s.data.toList a1 = a2 at *
  generalize nxt s.data.toList a1 4 = u at *
  clear f2 b2 U1 F1
  go_wp2_with fail
  refine (fnext3 F2.out 5 5 rfl (by omega) (by omega)).mono ?_
  rintro e w3 ⟨rfl, f3, b3⟩
  have F3 := hide f3
  have U3 := hide (U2.out.same b3)
  have n3 := Pk.nxt_lt s.data.toList a2 5 (by omega)
  generalize adv s.data.toList a2 = a3 at *
  generalize nxt s.data.toList a2 5 = v at *
  clear f3 b3 U2 F2
  have R3 : Hid (Blk w3 w.heap.size #[.int .i64 0, .int .i64 0, .int .i64 0] 48) := blk_but C0.out.a U3.out (by omega)
  go_upto_region 2 with fail
  have D4 := hide (heap_alloc_new w3 (.cells #[.int .i64 (p : Int), .int .i64 (10 * (u : Int)), .int .i64 ((v : Int) - 2)] 48))
  have b4 := hide ((Below.refl w3.heap.size w3).alloc (Nat.le_refl _) (.cells #[.int .i64 (p : Int), .int .i64 (10 * (u : Int)), .int .i64 ((v : Int) - 2)] 48))
  have hs3 := U3.out.size
  generalize w3.alloc (.cells #[.int .i64 (p : Int), .int .i64 (10 * (u : Int)), .int .i64 ((v : Int) - 2)] 48) = w4 at *
  have F4 := hide (F3.out.below b4.out)
  have U4 := hide (U3.out.of b4.out)
  have R4 := hide (R3.out.below b4.out)
  generalize hb3 : w3.heap.size = bo at *
  have hbo1 : bo ≠ bf := by omega
  have hbo2 : w.heap.size ≠ bo := by omega
  clear hb3
  go_wp2_with fail
  refine (fnext3 F4.out 20 20 rfl (by omega) (by omega)).mono ?_
  rintro e w5 ⟨rfl, f5, b5⟩
  have F5 := hide f5
  have U5 := hide (U4.out.same b5)
  have R5 := hide (blk_but R4.out b5 (by omega))
  have D5 : Hid (Blk w5 bo #[.int .i64 (p : Int), .int .i64 (10 * (u : Int)), .int .i64 ((v : Int) - 2)] 48) := blk_but D4.out b5 hbo1
  generalize adv s.data.toList a3 = a4 at *
  generalize nxt s.data.toList a3 20 = x at *
  clear f5 b5 U4 F4 R4 D4 b4
  have HBW : ∀ W, Hid (But (fun k => k = bf) w0 W → But (fun k => k = bf) w W) := fun W h => (But.ofB C0.out.bl).same h
  by_cases hx : x = 1
  · rw [if_pos hx, if_pos hx] at HR
    have hx' : ((x : Int) == 1) = true := by simp [hx]
    clear hx
    go_wp2_with fail
    refine (fnext3 F5.out 2 2 rfl (by omega) (by omega)).mono ?_
    rintro e w6 ⟨rfl, f6, b6⟩
    have F6 := hide f6
    have U6 := hide (U5.out.same b6)
    have R6 := hide (blk_but R5.out b6 (by omega))
    have D6 := hide (blk_but D5.out b6 hbo1)
    have n6 := Pk.nxt_lt s.data.toList a4 2 (by omega)
    generalize adv s.data.toList a4 = a5 at *
    generalize nxt s.data.toList a4 2 = y at *
    clear f6 b6 U5 F5 R5 D5
    have d0 : w6.cell? ⟨bo, 0, none⟩ = some (.int .i64 (p : Int)) := D6.out.cell 0
    have d1 : w6.cell? ⟨bo, 1, none⟩ = some (.int .i64 (10 * (u : Int))) := D6.out.cell 1
    have d2 : w6.cell? ⟨bo, 2, none⟩ = some (.int .i64 ((v : Int) - 2)) := D6.out.cell 2
    have g2 := free_of_heap D6.out 2
    have R7 : Hid (Blk (w6.setCell ⟨bo, 2, none⟩ (.int .i64 (1000 - 2000 * (y : Int)))) w.heap.size #[.int .i64 0, .int .i64 0, .int .i64 0] 48) := by
      show _ = _
      rw [set_far _ _ _ _ _ hbo2]; exact R6.out
    have D7 := hide (setB32 D6.out (.int .i64 (1000 - 2000 * (y : Int))))
    have F7 : Hid (FD (w6.setCell ⟨bo, 2, none⟩ (.int .i64 (1000 - 2000 * (y : Int)))) bf s a5) := ⟨by rw [set_far _ _ _ _ _ (Ne.symm hbo1)]; exact F6.out.feed, F6.out.le, F6.out.sz⟩
    have hw06 : w0.heap.size ≤ bo := by omega
    have U7 := hide (U6.out.setIn bo 2 (.int .i64 (1000 - 2000 * (y : Int))) (fun h => by omega))
    go_upto_region 4 with fail
    clear d0 d1 d2 g2
    generalize w6.setCell ⟨bo, 2, none⟩ (.int .i64 (1000 - 2000 * (y : Int))) = w7 at *
    have d0 : w7.cell? ⟨bo, 0, none⟩ = some (.int .i64 (p : Int)) := D7.out.cell 0
    have d1 : w7.cell? ⟨bo, 1, none⟩ = some (.int .i64 (10 * (u : Int))) := D7.out.cell 1
    have d2 : w7.cell? ⟨bo, 2, none⟩ = some (.int .i64 (1000 - 2000 * (y : Int))) := D7.out.cell 2
    have r0 : w7.cell? ⟨w.heap.size, 0, none⟩ = some (.int .i64 0) := R7.out.cell 0
    have r1 : w7.cell? ⟨w.heap.size, 1, none⟩ = some (.int .i64 0) := R7.out.cell 1
    have r2 : w7.cell? ⟨w.heap.size, 2, none⟩ = some (.int .i64 0) := R7.out.cell 2
    have g0 := free_of_heap R7.out 0
    have g1 := free_of_heap R7.out 1
    have g2 := free_of_heap R7.out 2
    have S7 := hide (setB3 R7.out (.int .i64 (p : Int)) (.int .i64 (10 * (u : Int))) (.int .i64 (1000 - 2000 * (y : Int))))
    have l0 := S7.out.cell 0
    have l1 := S7.out.cell 1
    have l2 := S7.out.cell 2
    go_wp2
    refine bodyPost_ret (v := .agg #[.int .i64 (p : Int), .int .i64 (10 * (u : Int)), .int .i64 (1000 - 2000 * (y : Int))]) (by simp [results, Tryz.results57, go_sem, l0, l1, l2]) rfl ?_
    unfold RowPost
    rw [HR.out]
    refine ⟨rfl, ⟨?_, F7.out.le, F7.out.sz⟩, ((((HBW _).out U7.out).setIn w.heap.size 0 _ (fun h => by omega)).setIn w.heap.size 1 _ (fun h => by omega)).setIn w.heap.size 2 _ (fun h => by omega)⟩
    rw [set_far _ _ _ _ _ (by omega), set_far _ _ _ _ _ (by omega), set_far _ _ _ _ _ (by omega)]; exact F7.out.feed
  · rw [if_neg hx, if_neg hx] at HR
    have hx' : ((x : Int) == 1) = false := by rw [beq_eq_false_iff_ne]; omega
    clear hx
    have d0 : w5.cell? ⟨bo, 0, none⟩ = some (.int .i64 (p : Int)) := D5.out.cell 0
    have d1 : w5.cell? ⟨bo, 1, none⟩ = some (.int .i64 (10 * (u : Int))) := D5.out.cell 1
    have d2 : w5.cell? ⟨bo, 2, none⟩ = some (.int .i64 ((v : Int) - 2)) := D5.out.cell 2
    have r0 : w5.cell? ⟨w.heap.size, 0, none⟩ = some (.int .i64 0) := R5.out.cell 0
    have r1 : w5.cell? ⟨w.heap.size, 1, none⟩ = some (.int .i64 0) := R5.out.cell 1
    have r2 : w5.cell? ⟨w.heap.size, 2, none⟩ = some (.int .i64 0) := R5.out.cell 2
    have g0 := free_of_heap R5.out 0
    have g1 := free_of_heap R5.out 1
    have g2 := free_of_heap R5.out 2
    have S7 := hide (setB3 R5.out (.int .i64 (p : Int)) (.int .i64 (10 * (u : Int))) (.int .i64 ((v : Int) - 2)))
    have l0 := S7.out.cell 0
    have l1 := S7.out.cell 1
    have l2 := S7.out.cell 2
    go_wp2
    refine bodyPost_ret (v := .agg #[.int .i64 (p : Int), .int .i64 (10 * (u : Int)), .int .i64 ((v : Int) - 2)]) (by simp [results, Tryz.results57, go_sem, l0, l1, l2]) rfl ?_
    unfold RowPost
    rw [HR.out]
    refine ⟨rfl, ⟨?_, F5.out.le, F5.out.sz⟩, ((((HBW _).out U5.out).setIn w.heap.size 0 _ (fun h => by omega)).setIn w.heap.size 1 _ (fun h => by omega)).setIn w.heap.size 2 _ (fun h => by omega)⟩
    rw [set_far _ _ _ _ _ (by omega), set_far _ _ _ _ _ (by omega), set_far _ _ _ _ _ (by omega)]; exact F5.out.feed
end Go.Proofs.YtcoofnhdbejnpaaGreatDoor

