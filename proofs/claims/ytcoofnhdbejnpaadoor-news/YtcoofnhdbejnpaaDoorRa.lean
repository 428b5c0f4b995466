/- Small numbers as texts. -/
import Derived.Test.YtcoofnhdbejnpaaDoorQd
import Derived.Test.YtcoofnhdbejnpaaDoorPlainA
namespace Go.Proofs.YtcoofnhdbejnpaaDoor
open Go.RowKit
def tbl1 : ByteArray := ⟨#[48, 49, 50, 51, 52, 53, 54, 55, 56, 57, 97, 98, 99, 100, 101, 102, 103, 104, 105, 106, 107, 108, 109, 110, 111, 112, 113, 114, 115, 116, 117, 118, 119, 120, 121, 122]⟩
def tbl2 : ByteArray := ⟨#[48, 48, 48, 49, 48, 50, 48, 51, 48, 52, 48, 53, 48, 54, 48, 55, 48, 56, 48, 57, 49, 48, 49, 49, 49, 50, 49, 51, 49, 52, 49, 53, 49, 54, 49, 55, 49, 56, 49, 57, 50, 48, 50, 49, 50, 50, 50, 51, 50, 52, 50, 53, 50, 54, 50, 55, 50, 56, 50, 57, 51, 48, 51, 49, 51, 50, 51, 51, 51, 52, 51, 53, 51, 54, 51, 55, 51, 56, 51, 57, 52, 48, 52, 49, 52, 50, 52, 51, 52, 52, 52, 53, 52, 54, 52, 55, 52, 56, 52, 57, 53, 48, 53, 49, 53, 50, 53, 51, 53, 52, 53, 53, 53, 54, 53, 55, 53, 56, 53, 57, 54, 48, 54, 49, 54, 50, 54, 51, 54, 52, 54, 53, 54, 54, 54, 55, 54, 56, 54, 57, 55, 48, 55, 49, 55, 50, 55, 51, 55, 52, 55, 53, 55, 54, 55, 55, 55, 56, 55, 57, 56, 48, 56, 49, 56, 50, 56, 51, 56, 52, 56, 53, 56, 54, 56, 55, 56, 56, 56, 57, 57, 48, 57, 49, 57, 50, 57, 51, 57, 52, 57, 53, 57, 54, 57, 55, 57, 56, 57, 57]⟩
theorem bytes_eq {a : ByteArray} {l : List UInt8} (h : a.data.toList = l) : a = ⟨l.toArray⟩ := by
  obtain ⟨⟨x⟩⟩ := a; simp at h; subst h; rfl
set_option maxRecDepth 100000 in
theorem tbl1_all : ∀ m : Fin 10, (tbl1.extract (m : Nat) ((m : Nat) + 1)).data.toList = Pq.numTxt ((m : Nat) : Int) := by decide +kernel
set_option maxRecDepth 100000 in
theorem tbl2_all : ∀ m : Fin 100, 10 ≤ (m : Nat) → (tbl2.extract ((m : Nat) * 2) ((m : Nat) * 2 + 2)).data.toList = Pq.numTxt ((m : Nat) : Int) := by decide +kernel
set_option maxRecDepth 100000 in
set_option maxHeartbeats 400000 in
theorem small_any (n : Nat) (h : n < 100) (w : World) :
    Calls Tryd.prog 75 #[.int .i64 (n : Int)] w fun e w' => e = .returned (.string ⟨(Pq.numTxt n).toArray⟩) ∧ w = w' := by
  by_cases h10 : n < 10
  · go_enter Tryd.func75, Tryd.ntmps75
    go_wp2
    go_ret
    refine ⟨?_, rfl⟩
    exact congrArg (fun x => Ending.returned (Value.string x)) (bytes_eq (a := tbl1.extract n (n + 1)) (tbl1_all ⟨n, h10⟩))
  · go_enter Tryd.func75, Tryd.ntmps75
    go_wp2
    go_ret
    refine ⟨?_, rfl⟩
    exact congrArg (fun x => Ending.returned (Value.string x)) (bytes_eq (a := tbl2.extract (n * 2) (n * 2 + 2)) (tbl2_all ⟨n, h⟩ (by simpa using h10)))
set_option maxHeartbeats 400000 in
theorem itoa_any (n : Int) (h0 : 0 ≤ n) (h : n < 100) (w : World) :
    Calls Tryd.prog 25 #[.int .i64 n] w fun e w' => e = .returned (.string ⟨(Pq.numTxt n).toArray⟩) ∧ w = w' := by
  obtain ⟨k, rfl⟩ := Int.eq_ofNat_of_zero_le h0
  have hk : k < 100 := by omega
  go_enter Tryd.func25, Tryd.ntmps25
  go_wp2_with (first | (go_at_call 75; refine (small_any k hk _).mono ?_; rintro e w' ⟨rfl, rfl⟩) | go_in)
  go_ret
  exact ⟨rfl, rfl⟩
end Go.Proofs.YtcoofnhdbejnpaaDoor
