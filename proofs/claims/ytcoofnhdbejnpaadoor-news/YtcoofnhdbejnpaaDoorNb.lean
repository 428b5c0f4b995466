/- Package panesref: New: Check, and a view. -/
import Derived.Test.YtcoofnhdbejnpaaDoorWi
namespace Go.Proofs.YtcoofnhdbejnpaaDoor
open Go.RowKit
/-- the cells of the document's view -/
def yView (vb vk vf : Value) (P : Pr.Parts) (vt : Value) : Array Value := #[vb, vk, vf, .int .i64 P.topV, .int .i64 P.frm, vt]
/-- what a view's query reads as -/
def YRd (l : Pq.Bytes) (B : Nat) (w : World) (vb vk vf : Value) (P : Pr.Parts) (vals : List Value) : Prop :=
  Pr.PartsOk (Pq.toksOf l) P ∧ Pq.endPS l = ⟨(Pq.toksOf l).length, false, P.cs, P.ks, P.fs, P.hasTop, P.top, P.frm, Pr.manyF P.segs, P.twice, Pr.argF P.segs⟩ ∧ RdT w vb P.bl ∧ RdT w vk P.kl ∧ w.ownsRow B 66 1 vf P.segs.length vals ∧ SegsRd w vals P.segs
theorem YRd.below {l : Pq.Bytes} {B : Nat} {w w' : World} {vb vk vf : Value} {P : Pr.Parts} {vals : List Value} (h : YRd l B w vb vk vf P vals) (hb : Below w.heap.size w w') : YRd l B w' vb vk vf P vals :=
  ⟨h.1, h.2.1, h.2.2.1.below hb, h.2.2.2.1.below hb, own_below h.2.2.2.2.1 hb, h.2.2.2.2.2.below hb⟩
def RNewPost (l : Pq.Bytes) (w : World) (e : Ending) (w' : World) : Prop :=
  Below w.heap.size w w' ∧
  ((Pq.readE l ≠ 0 ∧ e = .returned (.tuple #[.pointer none, .int .i64 (Pq.readE l), .int .i64 (Pq.readP l)])) ∨
   (Pq.readE l = 0 ∧ ∃ g vb vk vf P vals, w.heap.size ≤ g ∧ g < w'.heap.size ∧ e = .returned (.tuple #[.pointer (some ⟨g, 0, none⟩), .int .i64 0, .int .i64 0]) ∧ w'.heap[g]? = some (.cells (yView vb vk vf P (.slice none 0 0)) 95 (0, 0)) ∧ YRd l w.heap.size w' vb vk vf P vals))
set_option maxHeartbeats 1000000 in
theorem rnew_any (s : ByteArray) (w : World) (hs : s.size ≤ maxLen) :
    Calls Tryd.prog 20 #[.string s] w fun e w' => RNewPost s.data.toList w e w' := by
  go_enter Tryd.func20, Tryd.ntmps20
  go_wp2_with fail
  refine (check_any s _ hs).mono ?_
  rintro e w1 ⟨b1, hcp⟩
  rcases hcp with ⟨hne, rfl⟩ | ⟨h0, P, v, vb, vk, vf, vals, hP, hE, rfl, rv, rb, rk, own, sr⟩
  · have HNE := hide hne
    generalize hee : Pq.readE s.data.toList = ee at *
    generalize hpp : Pq.readP s.data.toList = pp at *
    have HEE := hide hee
    have HPP := hide hpp
    clear hee hpp
    have hne' : (ee != 0) = true := by simp [hne]
    clear hne
    go_wp2
    go_ret3
    refine ⟨b1.alloc b1.size _, .inl ?_⟩
    rw [HEE.out, HPP.out]
    exact ⟨HNE.out, rfl⟩
  · have H0 := hide h0
    obtain ⟨ab, nb, cb, rfl⟩ := rb.form
    obtain ⟨ak, nk, ck, rfl⟩ := rk.form
    obtain ⟨af, nf, cf, rfl⟩ := own_sl own
    have HY : Hid (YRd s.data.toList w.heap.size w1 (.slice ab nb cb) (.slice ak nk ck) (.slice af nf cf) P vals) := ⟨hP, hE, rb, rk, own, sr⟩
    clear hP hE rb rk own sr h0 rv
    go_wp2
    go_ret3
    have hb := b1.size
    have hB : Below w1.heap.size w1 ((w1.alloc (.cells #[.slice ab nb cb, .slice ak nk ck, .slice af nf cf, .int .i64 P.topV, .int .i64 P.frm] 69)).alloc (.cells #[.slice ab nb cb, .slice ak nk ck, .slice af nf cf, .int .i64 P.topV, .int .i64 P.frm, .slice none 0 0] 95)) := ((Below.refl _ _).alloc (Nat.le_refl _) _).alloc (by simp) _
    exact ⟨b1.trans (hB.mono b1.size), .inr ⟨H0.out, w1.heap.size + 1, _, _, _, P, vals, by omega, by simp, rfl, alloc_at (by simp), HY.out.below hB⟩⟩
end Go.Proofs.YtcoofnhdbejnpaaDoor
