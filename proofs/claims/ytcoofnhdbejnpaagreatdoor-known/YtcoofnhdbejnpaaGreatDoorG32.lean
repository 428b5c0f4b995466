/- Package paneskeep: next, rowOf. -/
import Derived.Test.YtcoofnhdbejnpaaGreatDoorG10
import Derived.Test.YtcoofnhdbejnpaaGreatDoorG22
import Derived.Test.YtcoofnhdbejnpaaGreatDoorG31
import Derived.Test.YtcoofnhdbejnpaaGreatDoorG29
namespace Go.Proofs.YtcoofnhdbejnpaaGreatDoor
open Go.RowKit
open Pk (nxt adv)
/-- a feed in memory -/
structure FD (w : World) (bf : Nat) (s : ByteArray) (a : Nat) : Prop where
  feed : w.heap[bf]? = some (.cells #[.string s, .int .i64 (a : Int)] 31 (0, 0))
  le : a ≤ s.size
  sz : s.size ≤ maxLen
theorem FD.below {w w' : World} {bf a : Nat} {s : ByteArray} (h : FD w bf s a) (hb : Below w.heap.size w w') : FD w' bf s a := ⟨(hb.block bf (Array.getElem?_eq_some_iff.1 h.feed).1).trans h.feed, h.le, h.sz⟩
theorem FD.but {w w' : World} {bf a : Nat} {s : ByteArray} {S : Nat → Prop} (h : FD w bf s a) (hb : But S w w') (hn : ¬ S bf) : FD w' bf s a := ⟨(hb.block bf (Array.getElem?_eq_some_iff.1 h.feed).1 hn).trans h.feed, h.le, h.sz⟩
theorem FD.lt {w : World} {bf a : Nat} {s : ByteArray} (h : FD w bf s a) : bf < w.heap.size := (Array.getElem?_eq_some_iff.1 h.feed).1
theorem set21 {W : World} {b : Nat} {v0 v1 : Value} {T : Nat} (h : W.heap[b]? = some (.cells #[v0, v1] T (0, 0))) (y : Value) : (W.setCell ⟨b, 1, none⟩ y).heap[b]? = some (.cells #[v0, y] T (0, 0)) := by
  simp [World.setCell, Array.getElem?_modify, h]
theorem But.drewN {S : Nat → Prop} {w w6 : World} (h : But S w w6) (n : Nat) : But S w (w6.drewN n) := ⟨h.os, h.tape, h.output, h.size, h.block⟩
set_option maxHeartbeats 400000 in
theorem fnext_any {w : World} {bf a : Nat} {s : ByteArray} (h : FD w bf s a) (n : Nat) (h0 : 0 < n) (h1 : n ≤ 100) :
    Calls Tryz.prog 14 #[.pointer (some ⟨bf, 0, none⟩), .int .i64 (n : Int)] w fun e w' => e = .returned (.int .i64 (nxt s.data.toList a n : Nat)) ∧ FD w' bf s (adv s.data.toList a) ∧ But (fun k => k = bf) w w' := by
  have H := hide h
  have c0 : w.cell? ⟨bf, 0, none⟩ = some (.string s) := cell_of_heap h.feed 0
  have c1 : w.cell? ⟨bf, 1, none⟩ = some (.int .i64 (a : Int)) := cell_of_heap h.feed 1
  have z1 := free_of_heap h.feed 1
  have hle := h.le
  have hsz := h.sz
  unfold maxLen at hsz
  clear h
  by_cases hlt : a < s.size
  · have hl : a < s.data.toList.length := by simpa using hlt
    have HN : Hid (nxt s.data.toList a n = s[a].toNat % n) := by show _ = _; unfold Pk.nxt; rw [dif_pos hl]; rfl
    have HA : Hid (adv s.data.toList a = a + 1) := by show _ = _; unfold Pk.adv; rw [if_pos hl]
    go_enter Tryz.func14, Tryz.ntmps14
    go_wp2
    go_quiet (fail)
    go_wp2
    go_quiet (fail)
    go_wp2
    go_ret
    rw [HN.out, HA.out]
    refine ⟨?_, ⟨set21 H.out.feed _, hlt, H.out.sz⟩, ((But.refl _ w).drewN _).setIn bf 1 _ (fun _ => rfl)⟩
    exact ret_int (by rw [wrap64_u8]; exact (Int.ofNat_tmod _ _).symm)
  · have HN : Hid (nxt s.data.toList a n = 0) := by show _ = _; unfold Pk.nxt; rw [dif_neg (by simpa using hlt)]
    have HA : Hid (adv s.data.toList a = a) := by show _ = _; unfold Pk.adv; rw [if_neg (by simpa using hlt)]
    go_enter Tryz.func14, Tryz.ntmps14
    go_wp2
    go_quiet (fail)
    go_wp2
    go_ret
    rw [HN.out, HA.out]
    exact ⟨rfl, ⟨H.out.feed, H.out.le, H.out.sz⟩, (But.refl _ w).drewN _⟩
theorem fnext3 {w : World} {bf a : Nat} {s : ByteArray} (h : FD w bf s a) (n : Nat) (m : Int) (hm : m = n) (h0 : 0 < n) (h1 : n ≤ 100) :
    Calls Tryz.prog 14 #[.pointer (some ⟨bf, 0, none⟩), .int .i64 m] w fun e w' => e = .returned (.int .i64 (nxt s.data.toList a n : Nat)) ∧ FD w' bf s (adv s.data.toList a) ∧ But (fun k => k = bf) w w' := by
  subst hm; exact fnext_any h n h0 h1
theorem But.ofB {S : Nat → Prop} {w w1 : World} (hb : Below w.heap.size w w1) : But S w w1 := (But.refl S w).of hb
theorem blk_but {w w' : World} {S : Nat → Prop} {b : Nat} {cs : Array Value} {T : Nat} (h : Blk w b cs T) (hb : But S w w') (hn : ¬ S b) : Blk w' b cs T := (hb.block b (Array.getElem?_eq_some_iff.1 h).1 hn).trans h
theorem But.same {S : Nat → Prop} {w w1 w2 : World} (h : But S w w1) (k : But S w1 w2) : But S w w2 := (h.trans k).weak (fun i _ hs => by
  rcases hs with h | h
  · exact h
  · exact h.1)
theorem setB3 {W : World} {b : Nat} {v0 v1 v2 : Value} {T : Nat} (h : Blk W b #[v0, v1, v2] T) (x0 x1 x2 : Value) : Blk (((W.setCell ⟨b, 0, none⟩ x0).setCell ⟨b, 1, none⟩ x1).setCell ⟨b, 2, none⟩ x2) b #[x0, x1, x2] T := by
  have h' : W.heap[b]? = some (.cells #[v0, v1, v2] T (0, 0)) := h
  simp [Blk, World.setCell, Array.getElem?_modify, h']
theorem setB32 {W : World} {b : Nat} {v0 v1 v2 : Value} {T : Nat} (h : Blk W b #[v0, v1, v2] T) (x2 : Value) : Blk (W.setCell ⟨b, 2, none⟩ x2) b #[v0, v1, x2] T := by
  have h' : W.heap[b]? = some (.cells #[v0, v1, v2] T (0, 0)) := h
  simp [Blk, World.setCell, Array.getElem?_modify, h']
def RowPost (w : World) (bf a : Nat) (s : ByteArray) (e : Ending) (w' : World) : Prop :=
  e = .returned (.agg #[.int .i64 (Pk.rowF s.data.toList a).1.1, .int .i64 (Pk.rowF s.data.toList a).1.2.1, .int .i64 (Pk.rowF s.data.toList a).1.2.2]) ∧ FD w' bf s (Pk.rowF s.data.toList a).2 ∧ But (fun k => k = bf) w w'
set_option maxRecDepth 100000 in
set_option maxHeartbeats 2000000 in
theorem rowOf_any {w : World} {bf a : Nat} {s : ByteArray} (h : FD w bf s a) : Calls Tryz.prog 57 #[.pointer (some ⟨bf, 0, none⟩)] w fun e w' => RowPost w bf a s e w' := by
  have H := hide h
  have hbl := h.lt
  clear h
  have HR : Hid (Pk.rowF s.data.toList a = ((((nxt s.data.toList a 3 : Nat) : Int), 10 * ((nxt s.data.toList (adv s.data.toList a) 4 : Nat) : Int), if nxt s.data.toList (adv s.data.toList (adv s.data.toList (adv s.data.toList a))) 20 = 1 then 1000 - 2000 * ((nxt s.data.toList (adv s.data.toList (adv s.data.toList (adv s.data.toList (adv s.data.toList a)))) 2 : Nat) : Int) else ((nxt s.data.toList (adv s.data.toList (adv s.data.toList a)) 5 : Nat) : Int) - 2), if nxt s.data.toList (adv s.data.toList (adv s.data.toList (adv s.data.toList a))) 20 = 1 then adv s.data.toList (adv s.data.toList (adv s.data.toList (adv s.data.toList (adv s.data.toList a)))) else adv s.data.toList (adv s.data.toList (adv s.data.toList (adv s.data.toList a))))) := rfl
  go_enter Tryz.func57, Tryz.ntmps57
  go_upto_region 1 with fail
  have C0 := hide (K1.start w #[.int .i64 0, .int .i64 0, .int .i64 0] 48)
  generalize w.alloc (.cells #[.int .i64 0, .int .i64 0, .int .i64 0] 48) = w0 at *
  have F0 := hide (H.out.below C0.out.bl)
  have hs0 := C0.out.size
  go_wp2_with fail
  refine (fnext3 F0.out 3 3 rfl (by omega) (by omega)).mono ?_
  rintro e w1 ⟨rfl, f1, b1⟩
  have F1 := hide f1
  have U1 := hide b1
  have n1 := Pk.nxt_lt s.data.toList a 3 (by omega)
  generalize adv s.data.toList a = a1 at *
  generalize nxt s.data.toList a 3 = p at *
  clear f1 b1
  go_wp2_with fail
  refine (fnext3 F1.out 4 4 rfl (by omega) (by omega)).mono ?_
  rintro e w2 ⟨rfl, f2, b2⟩
  have F2 := hide f2
  have U2 := hide (U1.out.same b2)
  have n2 := Pk.nxt_lt s.data.toList a1 4 (by omega)
  generalize adv s.data.toList a1 = a2 at *
  generalize nxt s.data.toList a1 4 = u at *
  clear f2 b2 U1 F1
  go_wp2_with fail
  refine (fnext3 F2.out 5 5 rfl (by omega) (by omega)).mono ?_
  rintro e w3 ⟨rfl, f3, b3⟩
  have F3 := hide f3
  have U3 := hide (U2.out.same b3)
  have n3 := Pk.nxt_lt s.data.toList a2 5 (by omega)
  generalize adv s.data.toList a2 = a3 at *
  generalize nxt s.data.toList a2 5 = v at *
  clear f3 b3 U2 F2
  have R3 : Hid (Blk w3 w.heap.size #[.int .i64 0, .int .i64 0, .int .i64 0] 48) := blk_but C0.out.a U3.out (by omega)
  go_upto_region 2 with fail
  have D4 := hide (heap_alloc_new w3 (.cells #[.int .i64 (p : Int), .int .i64 (10 * (u : Int)), .int .i64 ((v : Int) - 2)] 48))
  have b4 := hide ((Below.refl w3.heap.size w3).alloc (Nat.le_refl _) (.cells #[.int .i64 (p : Int), .int .i64 (10 * (u : Int)), .int .i64 ((v : Int) - 2)] 48))
  have hs3 := U3.out.size
  generalize w3.alloc (.cells #[.int .i64 (p : Int), .int .i64 (10 * (u : Int)), .int .i64 ((v : Int) - 2)] 48) = w4 at *
  have F4 := hide (F3.out.below b4.out)
  have U4 := hide (U3.out.of b4.out)
  have R4 := hide (R3.out.below b4.out)
  generalize hb3 : w3.heap.size = bo at *
  have hbo1 : bo ≠ bf := by omega
  have hbo2 : w.heap.size ≠ bo := by omega
  clear hb3
  go_wp2_with fail
  refine (fnext3 F4.out 20 20 rfl (by omega) (by omega)).mono ?_
  rintro e w5 ⟨rfl, f5, b5⟩
  have F5 := hide f5
  have U5 := hide (U4.out.same b5)
  have R5 := hide (blk_but R4.out b5 (by omega))
  have D5 : Hid (Blk w5 bo #[.int .i64 (p : Int), .int .i64 (10 * (u : Int)), .int .i64 ((v : Int) - 2)] 48) := blk_but D4.out b5 hbo1
  generalize adv s.data.toList a3 = a4 at *
  generalize nxt s.data.toList a3 20 = x at *
  clear f5 b5 U4 F4 R4 D4 b4
  have HBW : ∀ W, Hid (But (fun k => k = bf) w0 W → But (fun k => k = bf) w W) := fun W h => (But.ofB C0.out.bl).same h
  by_cases hx : x = 1
  · rw [if_pos hx, if_pos hx] at HR
    have hx' : ((x : Int) == 1) = true := by simp [hx]
    clear hx
    go_wp2_with fail
    refine (fnext3 F5.out 2 2 rfl (by omega) (by omega)).mono ?_
    rintro e w6 ⟨rfl, f6, b6⟩
    have F6 := hide f6
    have U6 := hide (U5.out.same b6)
    have R6 := hide (blk_but R5.out b6 (by omega))
    have D6 := hide (blk_but D5.out b6 hbo1)
    have n6 := Pk.nxt_lt s.data.toList a4 2 (by omega)
    generalize adv s.data.toList a4 = a5 at *
    generalize nxt s.data.toList a4 2 = y at *
    clear f6 b6 U5 F5 R5 D5
    have d0 : w6.cell? ⟨bo, 0, none⟩ = some (.int .i64 (p : Int)) := D6.out.cell 0
    have d1 : w6.cell? ⟨bo, 1, none⟩ = some (.int .i64 (10 * (u : Int))) := D6.out.cell 1
    have d2 : w6.cell? ⟨bo, 2, none⟩ = some (.int .i64 ((v : Int) - 2)) := D6.out.cell 2
    have g2 := free_of_heap D6.out 2
    have R7 : Hid (Blk (w6.setCell ⟨bo, 2, none⟩ (.int .i64 (1000 - 2000 * (y : Int)))) w.heap.size #[.int .i64 0, .int .i64 0, .int .i64 0] 48) := by
      show _ = _
      rw [set_far _ _ _ _ _ hbo2]; exact R6.out
    have D7 := hide (setB32 D6.out (.int .i64 (1000 - 2000 * (y : Int))))
    have F7 : Hid (FD (w6.setCell ⟨bo, 2, none⟩ (.int .i64 (1000 - 2000 * (y : Int)))) bf s a5) := ⟨by rw [set_far _ _ _ _ _ (Ne.symm hbo1)]; exact F6.out.feed, F6.out.le, F6.out.sz⟩
    have hw06 : w0.heap.size ≤ bo := by omega
    have U7 := hide (U6.out.setIn bo 2 (.int .i64 (1000 - 2000 * (y : Int))) (fun h => by omega))
    go_upto_region 4 with fail
    clear d0 d1 d2 g2
    generalize w6.setCell ⟨bo, 2, none⟩ (.int .i64 (1000 - 2000 * (y : Int))) = w7 at *
    have d0 : w7.cell? ⟨bo, 0, none⟩ = some (.int .i64 (p : Int)) := D7.out.cell 0
    have d1 : w7.cell? ⟨bo, 1, none⟩ = some (.int .i64 (10 * (u : Int))) := D7.out.cell 1
    have d2 : w7.cell? ⟨bo, 2, none⟩ = some (.int .i64 (1000 - 2000 * (y : Int))) := D7.out.cell 2
    have r0 : w7.cell? ⟨w.heap.size, 0, none⟩ = some (.int .i64 0) := R7.out.cell 0
    have r1 : w7.cell? ⟨w.heap.size, 1, none⟩ = some (.int .i64 0) := R7.out.cell 1
    have r2 : w7.cell? ⟨w.heap.size, 2, none⟩ = some (.int .i64 0) := R7.out.cell 2
    have g0 := free_of_heap R7.out 0
    have g1 := free_of_heap R7.out 1
    have g2 := free_of_heap R7.out 2
    have S7 := hide (setB3 R7.out (.int .i64 (p : Int)) (.int .i64 (10 * (u : Int))) (.int .i64 (1000 - 2000 * (y : Int))))
    have l0 := S7.out.cell 0
    have l1 := S7.out.cell 1
    have l2 := S7.out.cell 2
    go_wp2
    refine bodyPost_ret (v := .agg #[.int .i64 (p : Int), .int .i64 (10 * (u : Int)), .int .i64 (1000 - 2000 * (y : Int))]) (by simp [results, Tryz.results57, go_sem, l0, l1, l2]) rfl ?_
    unfold RowPost
    rw [HR.out]
    refine ⟨rfl, ⟨?_, F7.out.le, F7.out.sz⟩, ((((HBW _).out U7.out).setIn w.heap.size 0 _ (fun h => by omega)).setIn w.heap.size 1 _ (fun h => by omega)).setIn w.heap.size 2 _ (fun h => by omega)⟩
    rw [set_far _ _ _ _ _ (by omega), set_far _ _ _ _ _ (by omega), set_far _ _ _ _ _ (by omega)]; exact F7.out.feed
  · rw [if_neg hx, if_neg hx] at HR
    have hx' : ((x : Int) == 1) = false := by rw [beq_eq_false_iff_ne]; omega
    clear hx
    have d0 : w5.cell? ⟨bo, 0, none⟩ = some (.int .i64 (p : Int)) := D5.out.cell 0
    have d1 : w5.cell? ⟨bo, 1, none⟩ = some (.int .i64 (10 * (u : Int))) := D5.out.cell 1
    have d2 : w5.cell? ⟨bo, 2, none⟩ = some (.int .i64 ((v : Int) - 2)) := D5.out.cell 2
    have r0 : w5.cell? ⟨w.heap.size, 0, none⟩ = some (.int .i64 0) := R5.out.cell 0
    have r1 : w5.cell? ⟨w.heap.size, 1, none⟩ = some (.int .i64 0) := R5.out.cell 1
    have r2 : w5.cell? ⟨w.heap.size, 2, none⟩ = some (.int .i64 0) := R5.out.cell 2
    have g0 := free_of_heap R5.out 0
    have g1 := free_of_heap R5.out 1
    have g2 := free_of_heap R5.out 2
    have S7 := hide (setB3 R5.out (.int .i64 (p : Int)) (.int .i64 (10 * (u : Int))) (.int .i64 ((v : Int) - 2)))
    have l0 := S7.out.cell 0
    have l1 := S7.out.cell 1
    have l2 := S7.out.cell 2
    go_wp2
    refine bodyPost_ret (v := .agg #[.int .i64 (p : Int), .int .i64 (10 * (u : Int)), .int .i64 ((v : Int) - 2)]) (by simp [results, Tryz.results57, go_sem, l0, l1, l2]) rfl ?_
    unfold RowPost
    rw [HR.out]
    refine ⟨rfl, ⟨?_, F5.out.le, F5.out.sz⟩, ((((HBW _).out U5.out).setIn w.heap.size 0 _ (fun h => by omega)).setIn w.heap.size 1 _ (fun h => by omega)).setIn w.heap.size 2 _ (fun h => by omega)⟩
    rw [set_far _ _ _ _ _ (by omega), set_far _ _ _ _ _ (by omega), set_far _ _ _ _ _ (by omega)]; exact F5.out.feed
end Go.Proofs.YtcoofnhdbejnpaaGreatDoor

/- Package paneskeep: index. -/
namespace Go.Proofs.YtcoofnhdbejnpaaGreatDoor
open Go.RowKit
def rints (cs : List Pv.Chg) : List Value := cs.map (fun c => Value.int .i64 c.2)
theorem rints_snoc (cs : List Pv.Chg) (c : Pv.Chg) : rints (cs ++ [c]) = rints cs ++ [.int .i64 c.2] := by simp [rints]
theorem rints_get (cs : List Pv.Chg) (j : Nat) (h : j < cs.length) : (rints cs)[j]? = some (.int .i64 cs[j].2) := by
  unfold rints
  rw [List.getElem?_map, List.getElem?_eq_getElem h]; rfl
def crows (cs : List Pv.Chg) : List Value := rrows (cs.map (·.1))
theorem crows_snoc (cs : List Pv.Chg) (c : Pv.Chg) : crows (cs ++ [c]) = crows cs ++ rrow c.1 := by unfold crows; rw [List.map_append]; exact rrows_snoc _ _
/-- the counts in memory -/
structure CM (w : World) (bc B : Nat) (vr vn : Value) (cs : List Pv.Chg) (all : Int) : Prop where
  blk : w.heap[bc]? = some (.cells #[vr, vn, .int .i64 all] 66 (0, 0))
  rr : w.ownsRow B 48 3 vr cs.length (crows cs)
  rn : w.ownsRow B 3 1 vn cs.length (rints cs)
theorem CM.below {w w' : World} {bc B : Nat} {vr vn : Value} {cs : List Pv.Chg} {all : Int} (h : CM w bc B vr vn cs all) (hb : Below w.heap.size w w') : CM w' bc B vr vn cs all :=
  ⟨(hb.block bc (Array.getElem?_eq_some_iff.1 h.blk).1).trans h.blk, own_below h.rr hb, own_below h.rn hb⟩
theorem CM.lt {w : World} {bc B : Nat} {vr vn : Value} {cs : List Pv.Chg} {all : Int} (h : CM w bc B vr vn cs all) : bc < w.heap.size := (Array.getElem?_eq_some_iff.1 h.blk).1
/-- the three blocks of the counts -/
def CS (bc : Nat) (vr vn : Value) (k : Nat) : Prop := k = bc ∨ vr.ownBlock = some k ∨ vn.ownBlock = some k
theorem CM.but {w w' : World} {S : Nat → Prop} {bc B : Nat} {vr vn : Value} {cs : List Pv.Chg} {all : Int} (h : CM w bc B vr vn cs all) (hb : But S w w') (hn : ∀ k, CS bc vr vn k → ¬ S k) : CM w' bc B vr vn cs all :=
  ⟨(hb.block bc h.lt (hn bc (.inl rfl))).trans h.blk, own_but h.rr hb (fun g hg => hn g (.inr (.inl hg))), own_but h.rn hb (fun g hg => hn g (.inr (.inr hg)))⟩
/-- which kind each of them is -/
theorem CM.kind {w : World} {bc B : Nat} {vr vn : Value} {cs : List Pv.Chg} {all : Int} (h : CM w bc B vr vn cs all) : ∀ k, CS bc vr vn k → k < w.heap.size ∧ ∃ cur T fz, w.heap[k]? = some (.cells cur T fz) ∧ (T = 66 ∨ T = 48 ∨ T = 3) := fun k hk => by
  rcases hk with rfl | hk | hk
  · exact ⟨h.lt, _, _, _, h.blk, .inl rfl⟩
  · obtain ⟨cur, fz, e⟩ := own_type h.rr hk
    exact ⟨(h.rr.lt k hk).2, cur, _, fz, e, .inr (.inl rfl)⟩
  · obtain ⟨cur, fz, e⟩ := own_type h.rn hk
    exact ⟨(h.rn.lt k hk).2, cur, _, fz, e, .inr (.inr rfl)⟩
theorem CM.ne {w : World} {bc B : Nat} {vr vn : Value} {cs : List Pv.Chg} {all : Int} (h : CM w bc B vr vn cs all) : (∀ k, vr.ownBlock = some k → k ≠ bc ∧ vn.ownBlock ≠ some k) ∧ (∀ k, vn.ownBlock = some k → k ≠ bc) := by
  refine ⟨fun k hk => ⟨fun e => ?_, fun e => ?_⟩, fun k hk e => ?_⟩
  · subst e; obtain ⟨c, f, q⟩ := own_type h.rr hk; rw [h.blk] at q; cases q
  · obtain ⟨c, f, q⟩ := own_type h.rr hk; obtain ⟨c2, f2, q2⟩ := own_type h.rn e; rw [q] at q2; cases q2
  · subst e; obtain ⟨c, f, q⟩ := own_type h.rn hk; rw [h.blk] at q; cases q
theorem infoInt : (Tryz.prog.info? 3).map (fun i => (i.zero, i.size, i.bytes)) = some (some (.int .i64 0), 1, 8) := by kernel_rfl
/-- behind the append of the row -/
structure RW (w wy : World) (bc B g6 cap6 : Nat) (vr vn : Value) (cs : List Pv.Chg) (all : Int) (r : Pv.R3) : Prop where
  blk : wy.heap[bc]? = some (.cells #[.slice (some ⟨g6, 0, none⟩) (cs.length + 1) cap6, vn, .int .i64 all] 66 (0, 0))
  rr : wy.ownsRow B 48 3 (.slice (some ⟨g6, 0, none⟩) (cs.length + 1) cap6) (cs.length + 1) (crows (cs ++ [(r, 0)]))
  rn : wy.ownsRow B 3 1 vn cs.length (rints cs)
  but : But (CS bc vr vn) w wy
  n1 : vr.ownBlock = some g6 ∨ w.heap.size ≤ g6
theorem set30 {W : World} {b : Nat} {v0 v1 v2 : Value} {T : Nat} (h : W.heap[b]? = some (.cells #[v0, v1, v2] T (0, 0))) (y : Value) : (W.setCell ⟨b, 0, none⟩ y).heap[b]? = some (.cells #[y, v1, v2] T (0, 0)) := by
  simp [World.setCell, Array.getElem?_modify, h]
theorem set31 {W : World} {b : Nat} {v0 v1 v2 : Value} {T : Nat} (h : W.heap[b]? = some (.cells #[v0, v1, v2] T (0, 0))) (y : Value) : (W.setCell ⟨b, 1, none⟩ y).heap[b]? = some (.cells #[v0, y, v2] T (0, 0)) := by
  simp [World.setCell, Array.getElem?_modify, h]
theorem set32 {W : World} {b : Nat} {v0 v1 v2 : Value} {T : Nat} (h : W.heap[b]? = some (.cells #[v0, v1, v2] T (0, 0))) (y : Value) : (W.setCell ⟨b, 2, none⟩ y).heap[b]? = some (.cells #[v0, v1, y] T (0, 0)) := by
  simp [World.setCell, Array.getElem?_modify, h]
theorem RW.push {w w2 W w6 : World} {bc B g6 cap6 H : Nat} {vr vn : Value} {cs : List Pv.Chg} {all : Int} {r : Pv.R3} (hc : CM w2 bc B vr vn cs all) (hbw : But (CS bc vr vn) w w2) (hW : Below w2.heap.size w2 W) (hg : W.grownBy w6 vr.ownBlock) (hat : vr.ownBlock = some g6 ∨ g6 = H) (hH : w2.heap.size ≤ H) (hown : w6.ownsRow B 48 3 (.slice (some ⟨g6, 0, none⟩) (cs.length + 1) cap6) (cs.length + 1) (crows cs ++ rrow r)) :
    w6.heap[bc]? = some (.cells #[vr, vn, .int .i64 all] 66 (0, 0)) ∧ RW w (w6.setCell ⟨bc, 0, none⟩ (.slice (some ⟨g6, 0, none⟩) (cs.length + 1) cap6)) bc B g6 cap6 vr vn cs all r := by
  have hne := hc.ne
  have hb6 : w6.heap[bc]? = some (.cells #[vr, vn, .int .i64 all] 66 (0, 0)) := by
    rw [hg.block bc (Nat.lt_of_lt_of_le hc.lt hW.size) (fun e => (hne.1 bc e.symm).1 rfl), hW.block bc hc.lt]
    exact hc.blk
  have n2 : g6 ≠ bc := by
    rcases hat with h | h
    · exact (hne.1 g6 h).1
    · have := hc.lt; omega
  refine ⟨hb6, ⟨set30 hb6 _, ?_, ?_, ?_, ?_⟩⟩
  · rw [crows_snoc]
    exact hown.kept (grown_set w6 bc 0 _) (.inr (fun e => n2 (by cases e; rfl)))
  · have h1 : W.ownsRow B 3 1 vn cs.length (rints cs) := own_below hc.rn hW
    have h2 : w6.ownsRow B 3 1 vn cs.length (rints cs) := h1.kept hg (by
      cases hs : vn.ownBlock with
      | none => exact .inl rfl
      | some k => exact .inr (fun e => (hne.1 k e.symm).2 hs))
    refine h2.kept (grown_set w6 bc 0 _) ?_
    cases hs : vn.ownBlock with
    | none => exact .inl rfl
    | some k => exact .inr (fun e => by cases e; exact hne.2 _ hs rfl)
  · have h1 : But (CS bc vr vn) w W := hbw.of hW
    exact (h1.grown hg (fun k hk _ => .inr (.inl hk))).setIn bc 0 _ (fun _ => .inl rfl)
  · rcases hat with h | h
    · exact .inl h
    · exact .inr (by have := hbw.size; omega)
/-- the place of a row, with room for it -/
def IdxPost (w : World) (bc B : Nat) (vr vn : Value) (cs : List Pv.Chg) (all : Int) (r : Pv.R3) (e : Ending) (w' : World) : Prop :=
  e = .returned (.int .i64 ((Pk.idxF r cs : Nat) : Int)) ∧ But (CS bc vr vn) w w' ∧ ∃ x n c x2 n2 c2, CM w' bc B (.slice x n c) (.slice x2 n2 c2) (Pk.roomC r cs) all ∧ (∀ k, (Value.slice x n c).ownBlock = some k → vr.ownBlock = some k ∨ w.heap.size ≤ k) ∧ (∀ k, (Value.slice x2 n2 c2).ownBlock = some k → vn.ownBlock = some k ∨ w.heap.size ≤ k)
theorem ownS {w : World} {B e size n : Nat} {v : Value} {xs : List Value} (h : w.ownsRow B e size v n xs) : ∃ x c, v = .slice x n c := by
  rcases own_form h with ⟨h, h2⟩ | ⟨g, c, h⟩
  · exact ⟨none, 0, by rw [h, h2]⟩
  · exact ⟨_, c, h⟩
set_option maxRecDepth 100000 in
set_option maxHeartbeats 4000000 in
theorem index_any {w : World} {bc B : Nat} {vr vn : Value} {cs : List Pv.Chg} {all : Int} (h : CM w bc B vr vn cs all) (hB : B ≤ w.heap.size) (hl : cs.length ≤ 100000) (p u q : Int) :
    Calls Tryz.prog 58 #[.pointer (some ⟨bc, 0, none⟩), .agg #[.int .i64 p, .int .i64 u, .int .i64 q]] w fun e w' => IdxPost w bc B vr vn cs all (p, u, q) e w' := by
  obtain ⟨i0, hi, hz0, hz1, hz2⟩ := info_parts infoRow
  obtain ⟨j0, hj, hy0, hy1, hy2⟩ := info_parts infoInt
  have HC := hide h
  obtain ⟨xr, cr, rfl⟩ := ownS h.rr
  obtain ⟨xn, cn, rfl⟩ := ownS h.rn
  clear h
  go_enter Tryz.func58, Tryz.ntmps58
  go_upto_region 1 with fail
  have C0 := hide (K1.start w #[.int .i64 p, .int .i64 u, .int .i64 q] 48)
  generalize w.alloc (.cells #[.int .i64 p, .int .i64 u, .int .i64 q] 48) = w0 at *
  have hs0 := C0.out.size
  have HX : ∀ wx, Hid (Below w0.heap.size w0 wx → Below w.heap.size w wx ∧ CM wx bc B (.slice xr cs.length cr) (.slice xn cs.length cn) cs all ∧ wx.cell? ⟨bc, 0, none⟩ = some (.slice xr cs.length cr) ∧ wx.cell? ⟨w.heap.size, 0, none⟩ = some (.int .i64 p) ∧ wx.cell? ⟨w.heap.size, 1, none⟩ = some (.int .i64 u) ∧ wx.cell? ⟨w.heap.size, 2, none⟩ = some (.int .i64 q)) := fun wx hb => by
    have C1 := C0.out.below hb
    have hc1 := HC.out.below C1.bl
    exact ⟨C1.bl, hc1, cell_of_heap hc1.blk 0, cell_of_heap C1.a 0, cell_of_heap C1.a 1, cell_of_heap C1.a 2⟩
  go_wp2
  go_loopw [5] (fun i wr => ∃ k : Nat, k ≤ cs.length ∧ i = .int .i64 k ∧ Below w0.heap.size w0 wr ∧ Hid (∀ j (hj : j < cs.length), j < k → cs[j].1 ≠ (p, u, q))) (fun i _ => cs.length - (intOf i).toNat)
  case atStart => exact ⟨0, by omega, rfl, Below.refl _ _, fun j hj h => by omega⟩
  case round =>
    obtain ⟨k, hk, rfl, hb, HN⟩ := hrel
    have B1 := hide hb
    clear hb
    obtain ⟨bw, hc1, q0, r0, r1, r2⟩ := (HX _).out B1.out
    have BW := hide bw
    have C1 := hide hc1
    clear bw hc1
    by_cases hlt : k < cs.length
    · have hlt' : (k : Int) < (cs.length : Int) := by omega
      have hkm : k < (cs.map (·.1)).length := by simpa using hlt
      have RR := hide (RdR.ofOwn (l := cs.map (·.1)) C1.out.rr)
      obtain ⟨g, off, c, e, _⟩ := RdG.form1 RR.out (by simp; omega)
      rw [List.length_map] at e
      cases e
      obtain ⟨c0, c1, c2⟩ := RR.out.cell k hkm
      simp only [List.getElem_map] at c0 c1 c2
      by_cases he : cs[k].1 = (p, u, q)
      · have HI : Hid (Pk.idxF (p, u, q) cs = k) := Pk.idxF_is (p, u, q) cs k (by omega) (fun j hj h => HN.out j hj h) (fun _ => he)
        have HRC : Hid (Pk.roomC (p, u, q) cs = cs) := by show _ = _; unfold Pk.roomC; rw [HI.out, if_pos hlt]
        have h1 : cs[k].1.1 = p := by rw [he]
        have h2 : cs[k].1.2.1 = u := by rw [he]
        have h3 : cs[k].1.2.2 = q := by rw [he]
        rw [h1] at c0
        rw [h2] at c1
        rw [h3] at c2
        clear he h1 h2 h3
        go_wp2
        go_quiet (fail)
        go_wp2
        go_ret
        refine ⟨by rw [HI.out]; rfl, But.ofB (below_drewM BW.out _), _, _, _, _, _, _, by rw [HRC.out]; exact ⟨C1.out.blk, C1.out.rr, C1.out.rn⟩, fun k hk => .inl hk, fun k hk => .inl hk⟩
      · have hne : ¬ (cs[k].1.1 = p ∧ cs[k].1.2.1 = u ∧ cs[k].1.2.2 = q) := fun ⟨h1, h2, h3⟩ => he (Prod.ext h1 (Prod.ext h2 h3))
        have HE := hide he
        clear he
        generalize cs[k].1.1 = p1 at *
        generalize cs[k].1.2.1 = u1 at *
        generalize cs[k].1.2.2 = q1 at *
        have hc : (p1 == p) = false ∨ ((p1 == p) = true ∧ (u1 == u) = false) ∨ ((p1 == p) = true ∧ (u1 == u) = true ∧ (q1 == q) = false) := by
          by_cases h1 : p1 = p
          · by_cases h2 : u1 = u
            · have h3 : ¬ q1 = q := fun h3 => hne ⟨h1, h2, h3⟩
              exact .inr (.inr ⟨by simp [h1], by simp [h2], by simp [h3]⟩)
            · exact .inr (.inl ⟨by simp [h1], by simp [h2]⟩)
          · exact .inl (by simp [h1])
        clear hne
        rcases hc with h1 | ⟨h1, h2⟩ | ⟨h1, h2, h3⟩
        all_goals
          go_wp2
          go_quiet (fail)
          go_wp2
          go_roundw
          case rel =>
            refine ⟨k + 1, by omega, by go_num, below_drewM B1.out _, fun j hj h => ?_⟩
            rcases Nat.lt_or_ge j k with h1 | h1
            · exact HN.out j hj h1
            · obtain rfl : j = k := by omega
              exact HE.out
          case measure => simp [intOf]; omega
    · have hlt' : ¬ (k : Int) < (cs.length : Int) := by omega
      obtain rfl : k = cs.length := by omega
      have HI : Hid (Pk.idxF (p, u, q) cs = cs.length) := Pk.idxF_is (p, u, q) cs cs.length (Nat.le_refl _) (fun j hj h => HN.out j hj h) (fun h => by omega)
      have HRC : Hid (Pk.roomC (p, u, q) cs = cs ++ [((p, u, q), 0)]) := by show _ = _; unfold Pk.roomC; rw [HI.out, if_neg (by omega)]
      have hsz := BW.out.size
      have hbl := HC.out.lt
      have qa : (wr.alloc (.cells #[.int .i64 p, .int .i64 u, .int .i64 q] 48)).cell? ⟨bc, 0, none⟩ = some (.slice xr cs.length cr) := by
        rw [((Below.refl wr.heap.size wr).alloc (Nat.le_refl _) _).cell (p := ⟨bc, 0, none⟩) (by show bc < wr.heap.size; omega)]
        exact q0
      go_upto_region 6 with fail
      go_cut [62] from 53 to 77 (fun q62 wy => ∃ g6 cap6, RW w wy bc B g6 cap6 (.slice xr cs.length cr) (.slice xn cs.length cn) cs all (p, u, q))
      case first =>
        go_region_law (refine step_append_lies _ rfl (.tmp 57) (.tmp 59) 64 rfl B 48 i0 _ 3 24 Tryz.underlying64 hi hz0 hz1 hz2 rfl (by decide) _ cs.length (crows cs) rfl (C1.out.rr.alloc _).drew _ 1 1 (rrow (p, u, q)) rfl rfl (World.news_of_block (heap_alloc_new _ _)) (rrow_one (p, u, q)) (by decide) (by unfold maxLen; omega) (by omega) (by simp; omega) _ rfl ?_; intro g6 cap6 w6 hown6 hgrow6 hat6 hlt6; obtain ⟨hb6, PW6⟩ := RW.push (r := (p, u, q)) C1.out (But.ofB BW.out) (below_dB ((Below.refl _ _).alloc (Nat.le_refl _) _)) hgrow6 hat6 (by simp) hown6; have y0 : w6.cell? ⟨bc, 0, none⟩ = some (.slice xr cs.length cr) := cell_of_heap hb6 0; have z0 := free_of_heap hb6 0; have HPW := hide PW6; clear hb6 PW6 hown6 hgrow6 hat6 hlt6)
        all_goals
          go_wp2
          go_meet
          case rel => exact ⟨_, _, HPW.out⟩
      case rest =>
        obtain ⟨g6, cap6, hpw⟩ := hcut
        have P6 := hide hpw
        clear hpw q0 r0 r1 r2 qa
        have d1 : wc.cell? ⟨bc, 1, none⟩ = some (.slice xn cs.length cn) := cell_of_heap P6.out.blk 1
        have hs6 := P6.out.but.size
        have hblc : bc < wc.heap.size := (Array.getElem?_eq_some_iff.1 P6.out.blk).1
        have HNE := hide HC.out.ne
        have hwr : IntKind.i64.wrap (cs.length : Int) = (cs.length : Int) := wrap_id2 (by omega) (by omega)
        go_wp2_with (at_builtin; refine wpList_append_own_at _ rfl (.tmp 67) (.tmp 68) 25 rfl B 3 j0 _ 1 8 Tryz.underlying25 hj hy0 hy1 hy2 rfl (by decide) _ cs.length (rints cs) rfl (P6.out.rn.alloc _) _ 1 1 [.int .i64 0] rfl rfl (World.news_of_block (heap_alloc_new _ _)) (by intro u hu; simp at hu; rcases hu with rfl; rfl) (by unfold maxLen; omega) (by omega) (by simp; omega) ?_; intro v8 w8 hown8 hgrow8 hnil8 hat8; obtain ⟨x8, c8, rfl⟩ := ownS hown8; have hb8 : w8.heap[bc]? = some (.cells #[.slice (some ⟨g6, 0, none⟩) (cs.length + 1) cap6, .slice xn cs.length cn, .int .i64 all] 66 (0, 0)) := by {
          rw [hgrow8.block bc (by simp; omega) (fun e => HNE.out.2 bc e.symm rfl), ((Below.refl wc.heap.size wc).alloc (Nat.le_refl _) _).block bc hblc]; exact P6.out.blk }; have y1 : w8.cell? ⟨bc, 1, none⟩ = some (.slice xn cs.length cn) := cell_of_heap hb8 1; have yf := free_of_heap hb8 1; have e0 : (w8.setCell ⟨bc, 1, none⟩ (.slice x8 (cs.length + 1) c8)).cell? ⟨bc, 0, none⟩ = some (.slice (some ⟨g6, 0, none⟩) (cs.length + 1) cap6) := cell_of_heap (set31 hb8 _) 0; have HB8 := hide hb8; have O8 := hide hown8; have G8 := hide hgrow8; have HA8 := hide hat8; clear hown8 hgrow8 hnil8 hat8 hb8)
        have HRR : Hid ((w8.setCell ⟨bc, 1, none⟩ (.slice x8 (cs.length + 1) c8)).ownsRow B 48 3 (.slice (some ⟨g6, 0, none⟩) (cs.length + 1) cap6) (cs.length + 1) (crows (cs ++ [((p, u, q), 0)]))) := by
          refine own_set_far ((P6.out.rr.alloc _).kept G8.out (.inr (fun e => ?_))) (fun k hk e => ?_)
          · obtain ⟨c1, f1, e1⟩ := own_type P6.out.rr (k := g6) rfl
            obtain ⟨c2, f2, e2⟩ := own_type P6.out.rn e.symm
            rw [e1] at e2; cases e2
          · cases hk
            subst e
            obtain ⟨c1, f1, e1⟩ := own_type P6.out.rr (k := g6) rfl
            rw [P6.out.blk] at e1; cases e1
        have HRN : Hid ((w8.setCell ⟨bc, 1, none⟩ (.slice x8 (cs.length + 1) c8)).ownsRow B 3 1 (.slice x8 (cs.length + 1) c8) (cs.length + 1) (rints (cs ++ [((p, u, q), 0)]))) := by
          show World.ownsRow _ _ _ _ _ _ _
          rw [rints_snoc]
          refine own_set_far O8.out (fun k hk e => ?_)
          subst e
          obtain ⟨c1, f1, e1⟩ := own_type O8.out hk
          rw [HB8.out] at e1; cases e1
        have HBU : Hid (But (CS bc (.slice xr cs.length cr) (.slice xn cs.length cn)) w (w8.setCell ⟨bc, 1, none⟩ (.slice x8 (cs.length + 1) c8))) := ((P6.out.but.of ((Below.refl _ _).alloc (Nat.le_refl _) _)).grown G8.out (fun k hk _ => .inr (.inr hk))).setIn bc 1 _ (fun _ => .inl rfl)
        have HB9 := hide (set31 HB8.out (.slice x8 (cs.length + 1) c8))
        have HNW : Hid (∀ k, (Value.slice x8 (cs.length + 1) c8).ownBlock = some k → (Value.slice xn cs.length cn).ownBlock = some k ∨ w.heap.size ≤ k) := fun k hk => by
          rcases HA8.out with e | e
          · exact .inl (e.symm.trans hk)
          · rw [hk] at e
            cases e
            exact .inr (by simp; omega)
        go_ret
        refine ⟨by rw [HI.out]; rfl, HBU.out, _, _, _, _, _, _, ⟨HB9.out, ?_, ?_⟩, fun k hk => ?_, HNW.out⟩
        · rw [HRC.out, List.length_append]; exact HRR.out
        · rw [HRC.out, List.length_append]; exact HRN.out
        · cases hk; exact P6.out.n1
end Go.Proofs.YtcoofnhdbejnpaaGreatDoor

