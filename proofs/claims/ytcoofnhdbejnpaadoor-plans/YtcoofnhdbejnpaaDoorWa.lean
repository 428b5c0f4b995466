/- Package panesref: its leaves. -/
import Derived.Test.YtcoofnhdbejnpaaDoorQd
import Derived.Test.YtcoofnhdbejnpaaDoorPlainB
namespace Go.Proofs.YtcoofnhdbejnpaaDoor
open Go.RowKit
set_option maxHeartbeats 400000 in
theorem rDigit_any (c : UInt8) (w : World) :
    Calls Tryd.prog 70 #[.int .u8 (c.toNat : Int)] w fun e w' => e = .returned (.bool (Pq.isDig c)) ∧ w = w' := by
  unfold Pq.isDig
  go_enter Tryd.func70, Tryd.ntmps70
  go_wp2
  all_goals (go_ret; first | (simp [*]; done) | (simp [*]; omega))
set_option maxHeartbeats 400000 in
theorem rLetter_any (c : UInt8) (w : World) :
    Calls Tryd.prog 71 #[.int .u8 (c.toNat : Int)] w fun e w' => e = .returned (.bool (Pq.isLet c)) ∧ w = w' := by
  unfold Pq.isLet
  go_enter Tryd.func71, Tryd.ntmps71
  go_wp2
  all_goals (go_ret; first | (simp [*]; done) | (simp [*]; omega))
set_option maxHeartbeats 400000 in
theorem joined_any (a b : UInt8) (w : World) :
    Calls Tryd.prog 69 #[.int .u8 (a.toNat : Int), .int .u8 (b.toNat : Int)] w fun e w' => e = .returned (.bool (Pr.jn a b)) ∧ w = w' := by
  unfold Pr.jn
  cases h1 : Pq.isDig a <;> cases h2 : Pq.isDig b <;> cases h3 : Pq.isLet a <;> cases h4 : Pq.isLet b
  all_goals
    go_enter Tryd.func69, Tryd.ntmps69
    go_wp2_with (first | (go_at_call 70; refine (rDigit_any _ _).mono ?_; rintro e w' ⟨rfl, rfl⟩) | (go_at_call 71; refine (rLetter_any _ _).mono ?_; rintro e w' ⟨rfl, rfl⟩))
    go_ret
    exact ⟨rfl, rfl⟩
/-- texts as cells -/
def strCells (ws : List Pq.Bytes) : List Value := ws.map (fun t => .string ⟨t.toArray⟩)
/-- a list of texts can be read behind a slice -/
def RdS (w : World) (v : Value) (ws : List Pq.Bytes) : Prop :=
  (v = .slice none 0 0 ∧ ws = []) ∨ ∃ g off cap cur, v = .slice (some ⟨g, off, none⟩) ws.length cap ∧ ws.length ≤ cap ∧ w.heap[g]? = some (.cells cur 9 (0, 0)) ∧ ∀ (j : Nat) (u : Value), (strCells ws)[j]? = some u → cur[off + j]? = some u
theorem RdS.cell {w : World} {g off n cap : Nat} {ws : List Pq.Bytes} (h : RdS w (.slice (some ⟨g, off, none⟩) n cap) ws) (j : Nat) (hj : j < ws.length) : w.cell? ⟨g, off + j, none⟩ = some (.string ⟨ws[j].toArray⟩) := by
  rcases h with ⟨h, _⟩ | ⟨g', off', cap', cur, h, _, hg, hc⟩
  · cases h
  · cases h
    simp only [World.cell?, hg]
    exact hc j _ (by simp [strCells, hj])
set_option maxHeartbeats 400000 in
theorem in_any {w : World} (t : Pq.Bytes) (ws : List Pq.Bytes) (v : Value) (h : RdS w v ws) (hl : ws.length ≤ 1000) :
    Calls Tryd.prog 54 #[.string ⟨t.toArray⟩, v] w fun e w' => e = .returned (.bool (Pr.inW t ws)) ∧ w = w' := by
  have HR := hide h
  rcases h with ⟨rfl, rfl⟩ | ⟨g, off, cap, cur, rfl, hlc, hg, hc⟩
  · go_enter Tryd.func54, Tryd.ntmps54
    go_wp2
    go_loop [5] (fun i => i = .int .i64 0) (fun i => 0)
    case atStart => rfl
    case round =>
      subst hrel
      go_wp2
      go_ret
      exact ⟨rfl, rfl⟩
  · clear hc
    go_enter Tryd.func54, Tryd.ntmps54
    go_wp2
    go_loop [5] (fun i => ∃ k : Nat, k ≤ ws.length ∧ i = .int .i64 k ∧ Hid (∀ j (hj : j < ws.length), j < k → ws[j] ≠ t)) (fun i => ws.length - (intOf i).toNat)
    case atStart => exact ⟨0, by omega, rfl, fun j _ hj => by omega⟩
    case round =>
      obtain ⟨k, hk, rfl, HN⟩ := hrel
      by_cases hlt : k < ws.length
      · have c0 := HR.out.cell k hlt
        by_cases he : ws[k] = t
        · have hb : (ws[k] == t) = true := by simp [he]
          go_wp2
          go_ret
          refine ⟨?_, rfl⟩
          have : Pr.inW t ws = true := by unfold Pr.inW; rw [List.contains_iff_mem, ← he]; exact List.getElem_mem hlt
          rw [this]; rfl
        · have hb : (ws[k] == t) = false := by simp [he]
          go_wp2
          go_round
          case rel =>
            refine ⟨k + 1, by omega, by go_num, fun j hj hjk => ?_⟩
            rcases Nat.lt_or_eq_of_le (Nat.le_of_lt_succ hjk) with h | rfl
            · exact HN.out j hj h
            · exact he
          case measure => simp [intOf]; omega
      · go_wp2
        go_ret
        refine ⟨?_, rfl⟩
        have : Pr.inW t ws = false := by
          unfold Pr.inW; rw [Bool.eq_false_iff]; intro hm
          rw [List.contains_iff_mem] at hm
          obtain ⟨j, hj, e⟩ := List.getElem_of_mem hm
          exact HN.out j hj (by omega) e
        rw [this]; rfl
end Go.Proofs.YtcoofnhdbejnpaaDoor
