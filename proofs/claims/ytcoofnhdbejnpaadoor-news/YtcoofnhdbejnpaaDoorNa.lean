/- Package panes: New: a view of an empty table, or Plan's error and its place. -/
import Derived.Test.YtcoofnhdbejnpaaDoorRf
namespace Go.Proofs.YtcoofnhdbejnpaaDoor
open Go.RowKit
/-- the cells of a view just made -/
def xView (vb vk vf : Value) (s : Pq.PS) (vt : Value) : Array Value := #[vb, vk, vf, .bool s.hasTop, .int .i64 s.top, .int .i64 s.frm, vt]
def NewPost (l : Pq.Bytes) (w : World) (e : Ending) (w' : World) : Prop :=
  Below w.heap.size w w' ∧
  ((Pq.readE l ≠ 0 ∧ e = .returned (.tuple #[.pointer none, .int .i64 (Pq.readE l), .int .i64 (Pq.readP l)])) ∨
   (Pq.readE l = 0 ∧ ∃ g vb vk vf, w.heap.size ≤ g ∧ g < w'.heap.size ∧ e = .returned (.tuple #[.pointer (some ⟨g, 0, none⟩), .int .i64 0, .int .i64 0]) ∧ w'.heap[g]? = some (.cells (xView vb vk vf (Pq.endPS l) (.slice none 0 0)) 93 (0, 0)) ∧
    w'.ownsRow w.heap.size 107 1 vb (Pq.endPS l).by'.length (colCells (Pq.endPS l).by') ∧ w'.ownsRow w.heap.size 109 2 vk (Pq.endPS l).keys.length (keyCells (Pq.endPS l).keys) ∧ w'.ownsRow w.heap.size 118 9 vf (Pq.endPS l).funcs.length (fnCells (Pq.endPS l).funcs) ∧
    (Pq.endPS l).by'.length ≤ 301 ∧ (Pq.endPS l).keys.length ≤ 301 ∧ (Pq.endPS l).funcs.length ≤ 301))
set_option maxHeartbeats 1000000 in
theorem new_any (s : ByteArray) (w : World) (hs : s.size ≤ maxLen) :
    Calls Tryd.prog 19 #[.string s] w fun e w' => NewPost s.data.toList w e w' := by
  go_enter Tryd.func19, Tryd.ntmps19
  go_wp2_with fail
  refine (read_any s _ hs).mono ?_
  rintro e w1 ⟨b1, h1⟩
  rcases h1 with ⟨hne, rfl⟩ | ⟨h0, vb, vk, vf, rfl, o1, o2, o3, l1, l2, l3⟩
  · have HNE := hide hne
    generalize hee : Pq.readE s.data.toList = ee at *
    generalize hpp : Pq.readP s.data.toList = pp at *
    have HEE := hide hee
    have HPP := hide hpp
    clear hee hpp
    have hne' : (ee != 0) = true := by simp [hne]
    clear hne
    go_wp2
    go_ret3
    refine ⟨b1.alloc b1.size _, .inl ?_⟩
    rw [HEE.out, HPP.out]
    exact ⟨HNE.out, rfl⟩
  · have H0 := hide h0
    obtain ⟨a1, p1, rfl⟩ := own_slice o1
    obtain ⟨a2, p2, rfl⟩ := own_slice o2
    obtain ⟨a3, p3, rfl⟩ := own_slice o3
    have HL := hide (And.intro l1 (And.intro l2 l3))
    have O1 := hide o1
    have O2 := hide o2
    have O3 := hide o3
    clear o1 o2 o3 h0 l1 l2 l3
    go_wp2
    go_ret3
    have hb := b1.size
    exact ⟨(b1.alloc b1.size _).alloc (by simp; omega) _, .inr ⟨H0.out, w1.heap.size + 1, _, _, _, by omega, by simp, rfl, by rw [show w1.heap.size + 1 = (w1.alloc (.cells #[.slice a1 (Pq.endPS s.data.toList).by'.length p1, .slice a2 (Pq.endPS s.data.toList).keys.length p2, .slice a3 (Pq.endPS s.data.toList).funcs.length p3, .bool (Pq.endPS s.data.toList).hasTop, .int .i64 (Pq.endPS s.data.toList).top, .int .i64 (Pq.endPS s.data.toList).frm] 56)).heap.size from by simp]; exact heap_alloc_new _ _, (O1.out.alloc _).alloc _, (O2.out.alloc _).alloc _, (O3.out.alloc _).alloc _, HL.out⟩⟩
end Go.Proofs.YtcoofnhdbejnpaaDoor
