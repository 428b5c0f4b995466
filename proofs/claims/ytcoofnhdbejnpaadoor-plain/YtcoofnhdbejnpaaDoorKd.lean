/- Package paneskeep: edges. -/
import Derived.Test.YtcoofnhdbejnpaaDoorKc
namespace Go.Proofs.YtcoofnhdbejnpaaDoor
open Go.RowKit
open Pk (TS nxt adv)
theorem edge5 {w : World} {c : Nat} (h : w.heap[c]? = some (.cells #[.string ⟨#[115, 116, 97, 114, 116]⟩, .string ⟨#[101, 110, 100]⟩, .string ⟨#[104, 101, 114, 101]⟩, .string ⟨#[98, 97, 99, 107]⟩, .string ⟨#[111, 110]⟩] 9 (0, 0))) (j : Nat) (hj : j < 5) : w.cell? ⟨c, j, none⟩ = some (.string ⟨(Pk.edgeW j).toArray⟩) := by
  rw [cell_of_heap h j]
  match j, hj with
  | 0, _ => rfl
  | 1, _ => rfl
  | 2, _ => rfl
  | 3, _ => rfl
  | 4, _ => rfl
set_option maxHeartbeats 2000000 in
theorem edge_any {w : World} {bf bt : Nat} {s : ByteArray} {x : TS} (h : TF w bf bt s x) (hx : Pk.Ln 900200 x) :
    Calls Tryd.prog 24 #[.pointer (some ⟨bt, 0, none⟩), .pointer (some ⟨bf, 0, none⟩)] w fun e w' => e = .returned (.tuple #[]) ∧ TF w' bf bt s (Pk.edgeS s.data.toList x) ∧ G2 bf bt w w' := by
  have H := hide h
  have HX := hide hx
  have hcf : w.heap.size ≠ bf := Nat.ne_of_gt h.lt.1
  have hct : w.heap.size ≠ bt := Nat.ne_of_gt h.lt.2
  clear h hx
  go_enter Tryd.func24, Tryd.ntmps24
  go_wp2_with fail
  have L0 := hide (heap_alloc_new w (.cells #[.string ⟨#[115, 116, 97, 114, 116]⟩, .string ⟨#[101, 110, 100]⟩, .string ⟨#[104, 101, 114, 101]⟩, .string ⟨#[98, 97, 99, 107]⟩, .string ⟨#[111, 110]⟩] 9 (0, 0)))
  have Q0 := (G2.refl bf bt w).alloc (.cells #[.string ⟨#[115, 116, 97, 114, 116]⟩, .string ⟨#[101, 110, 100]⟩, .string ⟨#[104, 101, 114, 101]⟩, .string ⟨#[98, 97, 99, 107]⟩, .string ⟨#[111, 110]⟩] 9 (0, 0))
  refine (next_any (H.out.alloc _) 5 (by omega) (by omega)).mono ?_
  rintro e w1 ⟨rfl, h1, g1⟩
  have H1 := hide h1
  have Q1 := Q0.trans g1
  have L1 := hide (g1.keep L0.out hcf hct)
  clear h1 g1 L0 Q0
  have hk := Pk.nxt_lt s.data.toList x.a 5 (by omega)
  have HE : Hid (Pk.edgeS s.data.toList x = if nxt s.data.toList x.a 5 < 3 then Pk.wordS s.data.toList (Pk.edgeW (nxt s.data.toList x.a 5)) (x.eat s.data.toList) else Pk.wordS s.data.toList (Pk.edgeW (nxt s.data.toList x.a 5)) (Pk.numberS s.data.toList (nxt s.data.toList (adv s.data.toList x.a) 5) true ((x.eat s.data.toList).eat s.data.toList))) := hide rfl
  have hw := Pk.edgeW_len (nxt s.data.toList x.a 5)
  by_cases h3 : nxt s.data.toList x.a 5 < 3
  · have HE2 : Hid (Pk.edgeS s.data.toList x = Pk.wordS s.data.toList (Pk.edgeW (nxt s.data.toList x.a 5)) (x.eat s.data.toList)) := by show _ = _; rw [HE.out, if_pos h3]
    clear HE
    generalize nxt s.data.toList x.a 5 = k at *
    have cw := edge5 L1.out k hk
    go_wp2_with fail
    refine (word_any H1.out (Pk.edgeW k) ((HX.out.eat _).ok (by omega)) (by omega)).mono ?_
    rintro e w2 ⟨rfl, h2, g2⟩
    have H2 := hide h2
    have Q2 := Q1.trans g2
    clear h2 g2
    go_wp2
    ((try simp only [Exit.inBlock, Exit.then]); refine bodyPost_ret (results_none rfl _ _ _) rfl ?_)
    rw [HE2.out]
    exact ⟨rfl, H2.out, Q2⟩
  · have HE2 : Hid (Pk.edgeS s.data.toList x = Pk.wordS s.data.toList (Pk.edgeW (nxt s.data.toList x.a 5)) (Pk.numberS s.data.toList (nxt s.data.toList (adv s.data.toList x.a) 5) true ((x.eat s.data.toList).eat s.data.toList))) := by show _ = _; rw [HE.out, if_neg h3]
    clear HE
    generalize nxt s.data.toList x.a 5 = k at *
    go_wp2_with fail
    refine (next_any H1.out 5 (by omega) (by omega)).mono ?_
    rintro e w2 ⟨rfl, h2, g2⟩
    have H2 := hide h2
    have Q2 := Q1.trans g2
    have L2 := hide (g2.keep L1.out hcf hct)
    clear h2 g2
    have hn5 : nxt s.data.toList (Pk.TS.eat s.data.toList x).a 5 < 5 := Pk.nxt_lt _ _ _ (by omega)
    go_wp2_with fail
    refine (number_any H2.out (nxt s.data.toList (Pk.TS.eat s.data.toList x).a 5 : Nat) true (((HX.out.eat _).eat _).ok (by omega)) (by omega) (by omega)).mono ?_
    rintro e w3 ⟨rfl, h3, g3⟩
    have H3 := hide h3
    have Q3 := Q2.trans g3
    have L3 := hide (g3.keep L2.out hcf hct)
    clear h3 g3
    have cw := edge5 L3.out k hk
    go_wp2_with fail
    refine (word_any H3.out (Pk.edgeW k) ((((HX.out.eat _).eat _).number _ _ _).ok (by omega)) (by omega)).mono ?_
    rintro e w4 ⟨rfl, h4, g4⟩
    have H4 := hide h4
    have Q4 := Q3.trans g4
    clear h4 g4
    go_wp2
    go_end0
    rw [HE2.out]
    exact ⟨rfl, H4.out, Q4⟩
end Go.Proofs.YtcoofnhdbejnpaaDoor
