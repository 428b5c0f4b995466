/- Package paneskeep: lined. -/
import Derived.Test.YtcoofnhdbejnpaaGreatDoorG22
import Derived.Test.YtcoofnhdbejnpaaGreatDoorG32
namespace Go.Proofs.YtcoofnhdbejnpaaGreatDoor
open Go.RowKit
open Pk (LN Fx gAt vAt LineOk nxt adv)
namespace Pk
/-- a line so far: the group g has i copies -/
structure Nx (L : LN) (g i : Nat) : Prop where
  ok : LineOk L
  len : L.length ≤ 3 * g + i
  a : L.length = 0 → g = 0 ∧ i = 0
  b : ∀ j, j + 1 = L.length → gAt L j = g ∨ (gAt L j = (g : Int) - 1 ∧ i = 0)
theorem Nx.nil : Nx [] 0 0 := ⟨LineOk.nil, by simp, fun _ => ⟨rfl, rfl⟩, fun j h => by simp at h⟩
theorem Nx.snoc {L : LN} {g i : Nat} (h : Nx L g i) (hg : g < 10) (hi : i < 3) {v : Int} (h1 : -9 ≤ v) (h2 : v ≤ 9) : Nx (L ++ [((g : Int), v)]) g (i + 1) := by
  have hl := h.len
  refine ⟨h.ok.snoc (by omega) (by omega) (by omega) h1 h2 (fun e => by have := (h.a e).1; omega) (fun j e => ?_), by simp; omega, fun e => by simp at e, fun j e => ?_⟩
  · rcases h.b j e with q | ⟨q, _⟩
    · exact .inl q.symm
    · exact .inr (by omega)
  · left
    simp at e
    rw [e, gAt_last]
theorem Nx.up {L : LN} {g i : Nat} (h : Nx L g i) (h0 : 0 < i) (h3 : i ≤ 3) : Nx L (g + 1) 0 := by
  have hl := h.len
  refine ⟨h.ok, by omega, fun e => by have := (h.a e).2; omega, fun j e => .inr ⟨?_, rfl⟩⟩
  rcases h.b j e with q | ⟨_, q⟩
  · omega
  · omega
end Pk
def ints (l : List Int) : List Value := l.map (fun x => Value.int .i64 x)
theorem ints_snoc (l : List Int) (x : Int) : ints (l ++ [x]) = ints l ++ [.int .i64 x] := by simp [ints]
/-- while a line is made -/
structure LS (w w' : World) (s : ByteArray) (a : Nat) (sg sv : Value) (gs vs : List Int) : Prop where
  res : w'.heap[w.heap.size]? = some (.cells #[.slice none 0 0, .slice none 0 0] 27 (0, 0))
  fd : FD w' (w.heap.size + 1) s a
  blk : w'.heap[w.heap.size + 1 + 1]? = some (.cells #[sg, sv] 27 (0, 0))
  og : w'.ownsRow (w.heap.size + 3) 3 1 sg gs.length (ints gs)
  ov : w'.ownsRow (w.heap.size + 3) 3 1 sv vs.length (ints vs)
  sep : ∀ k, sg.ownBlock = some k → sv.ownBlock ≠ some k
  bl : Below w.heap.size w w'
theorem LS.size {w w' : World} {s : ByteArray} {a : Nat} {sg sv : Value} {gs vs : List Int} (h : LS w w' s a sg sv gs vs) : w.heap.size + 3 ≤ w'.heap.size := by
  have := (Array.getElem?_eq_some_iff.1 h.blk).1
  omega
theorem LS.start {w w0 : World} {s : ByteArray} (hs : s.size ≤ maxLen) (h : K3 w w0 #[.slice none 0 0, .slice none 0 0] 27 #[.string s, .int .i64 0] 31 #[.slice none 0 0, .slice none 0 0] 27) : LS w w0 s 0 (.slice none 0 0) (.slice none 0 0) [] [] :=
  ⟨h.a, ⟨h.b, Nat.zero_le _, hs⟩, h.c, World.ownsRow_nil _ _ _ _, World.ownsRow_nil _ _ _ _, (fun k e => by cases e), h.bl⟩
theorem LS.next {w w1 w2 : World} {s : ByteArray} {a a2 : Nat} {sg sv : Value} {gs vs : List Int} (h : LS w w1 s a sg sv gs vs) (hf : FD w2 (w.heap.size + 1) s a2) (hb : But (fun k => k = w.heap.size + 1) w1 w2) : LS w w2 s a2 sg sv gs vs := by
  have hz := h.size
  refine ⟨(hb.block _ (by omega) (by omega)).trans h.res, hf, (hb.block _ (by omega) (by omega)).trans h.blk, own_but h.og hb (fun g hg e => ?_), own_but h.ov hb (fun g hg e => ?_), h.sep, h.bl.trans (hb.below (fun k hk e => by omega) (by omega))⟩
  · have := (own_at h.og hg).1; omega
  · have := (own_at h.ov hg).1; omega
theorem set20 {W : World} {b : Nat} {v0 v1 : Value} {T : Nat} (h : W.heap[b]? = some (.cells #[v0, v1] T (0, 0))) (y : Value) : (W.setCell ⟨b, 0, none⟩ y).heap[b]? = some (.cells #[y, v1] T (0, 0)) := by
  simp [World.setCell, Array.getElem?_modify, h]
theorem LS.keep {w w2 w8 : World} {s : ByteArray} {a : Nat} {sg sv : Value} {gs vs : List Int} (h : LS w w2 s a sg sv gs vs) {o : Obj} {row : Option Nat} (hg : (w2.alloc o).grownBy w8 row) (hr : ∀ k, row = some k → w.heap.size + 3 ≤ k) : w8.heap[w.heap.size + 1 + 1]? = some (.cells #[sg, sv] 27 (0, 0)) ∧ w8.heap[w.heap.size]? = some (.cells #[.slice none 0 0, .slice none 0 0] 27 (0, 0)) ∧ FD w8 (w.heap.size + 1) s a ∧ Below w.heap.size w w8 := by
  have hz := h.size
  have ha := (Below.refl w2.heap.size w2).alloc (Nat.le_refl _) o
  have key : ∀ k, k < w.heap.size + 3 → w8.heap[k]? = w2.heap[k]? := fun k hk => by
    rw [hg.block k (by simp; omega) (fun e => by have := hr k e.symm; omega), ha.block k (by omega)]
  refine ⟨(key _ (by omega)).trans h.blk, (key _ (by omega)).trans h.res, ⟨(key _ (by omega)).trans h.fd.feed, h.fd.le, h.fd.sz⟩, ?_⟩
  exact (h.bl.alloc (by have := h.bl.size; omega) o).grown hg (by simp; omega) (fun k hk => by have := hr k hk; omega)
theorem LS.pushG {w w2 w8 : World} {s : ByteArray} {a : Nat} {sg sv v8 : Value} {gs vs : List Int} (h : LS w w2 s a sg sv gs vs) {o : Obj} {v : Int} {H : Nat} (hown : w8.ownsRow (w.heap.size + 3) 3 1 v8 (gs.length + 1) (ints gs ++ [.int .i64 v])) (hg : (w2.alloc o).grownBy w8 sg.ownBlock) (hat : v8.ownBlock = sg.ownBlock ∨ v8.ownBlock = some H) (hH : w2.heap.size ≤ H) : LS w (w8.setCell ⟨w.heap.size + 1 + 1, 0, none⟩ v8) s a v8 sv (gs ++ [v]) vs := by
  have hz := h.size
  obtain ⟨k1, k2, k3, k4⟩ := h.keep hg (fun k hk => (own_at h.og hk).1)
  refine ⟨?_, ⟨?_, k3.le, k3.sz⟩, set20 k1 _, ?_, ?_, fun k hk e => ?_, k4.setCell (p := ⟨w.heap.size + 1 + 1, 0, none⟩) (by simp; omega) _⟩
  · rw [set_far _ _ _ _ _ (by omega)]; exact k2
  · rw [set_far _ _ _ _ _ (by omega)]; exact k3.feed
  · rw [ints_snoc, List.length_append]
    exact own_set_far hown (fun k hk e => by have := (own_at hown hk).1; omega)
  · refine own_set_far ((h.ov.alloc o).kept hg ?_) (fun k hk e => by have := (own_at h.ov hk).1; omega)
    cases hs : sv.ownBlock with
    | none => exact .inl rfl
    | some k => exact .inr (fun e => h.sep k e.symm hs)
  · rcases hat with q | q
    · exact h.sep k (q ▸ hk) e
    · rw [hk] at q
      cases q
      have := (own_at h.ov e).2
      omega
theorem LS.pushV {w w2 w8 : World} {s : ByteArray} {a : Nat} {sg sv v8 : Value} {gs vs : List Int} (h : LS w w2 s a sg sv gs vs) {o : Obj} {v : Int} {H : Nat} (hown : w8.ownsRow (w.heap.size + 3) 3 1 v8 (vs.length + 1) (ints vs ++ [.int .i64 v])) (hg : (w2.alloc o).grownBy w8 sv.ownBlock) (hat : v8.ownBlock = sv.ownBlock ∨ v8.ownBlock = some H) (hH : w2.heap.size ≤ H) : LS w (w8.setCell ⟨w.heap.size + 1 + 1, 1, none⟩ v8) s a sg v8 gs (vs ++ [v]) := by
  have hz := h.size
  obtain ⟨k1, k2, k3, k4⟩ := h.keep hg (fun k hk => (own_at h.ov hk).1)
  refine ⟨?_, ⟨?_, k3.le, k3.sz⟩, set21 k1 _, ?_, ?_, fun k hk e => ?_, k4.setCell (p := ⟨w.heap.size + 1 + 1, 1, none⟩) (by simp; omega) _⟩
  · rw [set_far _ _ _ _ _ (by omega)]; exact k2
  · rw [set_far _ _ _ _ _ (by omega)]; exact k3.feed
  · refine own_set_far ((h.og.alloc o).kept hg ?_) (fun k hk e => by have := (own_at h.og hk).1; omega)
    cases hs : sg.ownBlock with
    | none => exact .inl rfl
    | some k => exact .inr (fun e => h.sep k hs e.symm)
  · rw [ints_snoc, List.length_append]
    exact own_set_far hown (fun k hk e => by have := (own_at hown hk).1; omega)
  · rcases hat with q | q
    · exact h.sep k hk (q ▸ e)
    · rw [e] at q
      cases q
      have := (own_at h.og hk).2
      omega
def gOf (L : LN) : List Int := L.map (·.1)
def vOf (L : LN) : List Int := L.map (·.2)
theorem gOf_len (L : LN) : (gOf L).length = L.length := by simp [gOf]
theorem vOf_len (L : LN) : (vOf L).length = L.length := by simp [vOf]
theorem gOf_snoc (L : LN) (g v : Int) : gOf (L ++ [(g, v)]) = gOf L ++ [g] := by simp [gOf]
theorem vOf_snoc (L : LN) (g v : Int) : vOf (L ++ [(g, v)]) = vOf L ++ [v] := by simp [vOf]
theorem gOf_cells (L : LN) : ints (gOf L) = gCells L := by simp [ints, gOf, gCells]
theorem vOf_cells (L : LN) : ints (vOf L) = vCells L := by simp [ints, vOf, vCells]
def LPost (w : World) (e : Ending) (w' : World) : Prop := Below w.heap.size w w' ∧ ∃ sg sv L, e = .returned (lv sg sv) ∧ LM w' sg sv L
set_option maxRecDepth 100000 in
set_option maxHeartbeats 4000000 in
theorem lined_any (s : ByteArray) (hs : s.size ≤ maxLen) (w : World) :
    Calls Tryz.prog 13 #[.string s] w fun e w' => LPost w e w' := by
  obtain ⟨j0, hj, hy0, hy1, hy2⟩ := info_parts infoInt
  go_enter Tryz.func13, Tryz.ntmps13
  go_upto_region 3 with fail
  have S0 := hide (LS.start hs (K3.start w #[.slice none 0 0, .slice none 0 0] 27 #[.string s, .int .i64 0] 31 #[.slice none 0 0, .slice none 0 0] 27))
  generalize (((w.alloc (.cells #[.slice none 0 0, .slice none 0 0] 27)).alloc (.cells #[.string s, .int .i64 0] 31)).alloc (.cells #[.slice none 0 0, .slice none 0 0] 27)) = w0 at *
  go_wp2_with fail
  refine (fnext3 S0.out.fd 11 11 rfl (by omega) (by omega)).mono ?_
  rintro e w1 ⟨rfl, f1, b1⟩
  have S1 := hide (S0.out.next f1 b1)
  have n1 := Pk.nxt_lt s.data.toList 0 11 (by omega)
  generalize adv s.data.toList 0 = a1 at *
  generalize nxt s.data.toList 0 11 = n at *
  clear f1 b1 S0
  go_wp2
  go_loopw [6] (fun g6 wr => ∃ g : Nat, g ≤ n ∧ g6 = .int .i64 g ∧ Hid (∃ a sg sv L, LS w wr s a sg sv (gOf L) (vOf L) ∧ Pk.Nx L g 0)) (fun g6 _ => n - (intOf g6).toNat)
  case atStart => exact ⟨0, by omega, rfl, _, _, _, [], S1.out, Pk.Nx.nil⟩
  case round =>
    obtain ⟨g, hg, rfl, HX⟩ := hrel
    obtain ⟨a, sg, sv, L, hls, hnx⟩ := HX.out
    have S2 := hide hls
    have N2 := hide hnx
    clear hls hnx HX S1
    by_cases hlt : g < n
    · have hlt' : (g : Int) < (n : Int) := by omega
      go_wp2_with fail
      refine (fnext3 S2.out.fd 3 3 rfl (by omega) (by omega)).mono ?_
      rintro e w3 ⟨rfl, f3, b3⟩
      have S3 := hide (S2.out.next f3 b3)
      have n3 := Pk.nxt_lt s.data.toList a 3 (by omega)
      generalize adv s.data.toList a = a3 at *
      generalize nxt s.data.toList a 3 = k at *
      clear f3 b3 S2
      have E3 : Hid (∃ a sg sv L, LS w w3 s a sg sv (gOf L) (vOf L) ∧ Pk.Nx L g 0) := ⟨_, _, _, _, S3.out, N2.out⟩
      clear S3 N2
      go_wp2
      go_loopw [8] (fun i8 wr => ∃ i : Nat, i ≤ k + 1 ∧ i8 = .int .i64 i ∧ Hid (∃ a sg sv L, LS w wr s a sg sv (gOf L) (vOf L) ∧ Pk.Nx L g i)) (fun i8 _ => k + 1 - (intOf i8).toNat)
      case atStart => exact ⟨0, by omega, rfl, E3⟩
      case round =>
        obtain ⟨i, hi, rfl, HY⟩ := hrel
        obtain ⟨a, sg, sv, L, hls, hnx⟩ := HY.out
        have S4 := hide hls
        have N4 := hide hnx
        clear hls hnx HY E3
        by_cases hil : i < k + 1
        · have hil' : (i : Int) < (k : Int) + 1 := by omega
          go_wp2_with fail
          refine (fnext3 S4.out.fd 19 19 rfl (by omega) (by omega)).mono ?_
          rintro e w5 ⟨rfl, f5, b5⟩
          have S5 := hide (S4.out.next f5 b5)
          have n5 := Pk.nxt_lt s.data.toList a 19 (by omega)
          generalize adv s.data.toList a = a5 at *
          generalize nxt s.data.toList a 19 = v at *
          clear f5 b5 S4
          have N5 := hide (N4.out.snoc (v := (v : Int) - 9) (by omega) (by omega) (by omega) (by omega))
          have hL := N4.out.ok.len
          have O5 : Hid (w5.ownsRow (w.heap.size + 3) 3 1 sg L.length (ints (gOf L))) := by
            show World.ownsRow _ _ _ _ _ _ _
            have := S5.out.og
            rw [gOf_len] at this
            exact this
          have HG := hide (gOf_snoc L (g : Int) ((v : Int) - 9))
          have HV := hide (vOf_snoc L (g : Int) ((v : Int) - 9))
          clear N4
          generalize L ++ [((g : Int), (v : Int) - 9)] = L1 at *
          have d0 : w5.cell? ⟨w.heap.size + 1 + 1, 0, none⟩ = some sg := cell_of_heap S5.out.blk 0
          have hz5 := S5.out.size
          go_upto_region 13 with (at_builtin; refine wpList_append_own_at _ rfl (.tmp 32) (.tmp 34) 25 rfl (w.heap.size + 3) 3 j0 _ 1 8 Tryz.underlying25 hj hy0 hy1 hy2 rfl (by decide) _ L.length (ints (gOf L)) rfl (O5.out.alloc _) _ 1 1 [.int .i64 (g : Int)] rfl rfl (World.news_of_block (heap_alloc_new _ _)) (by intro u hu; simp at hu; rcases hu with rfl; rfl) (by unfold maxLen; omega) (by omega) (by simp; omega) ?_; intro v8 w8 hown8 hgrow8 hnil8 hat8; obtain ⟨x8, c8, rfl⟩ := ownS hown8; have S8 := hide (S5.out.pushG (by rw [gOf_len]; exact hown8) hgrow8 hat8 (by simp)); have O8 : Hid ((w8.setCell ⟨w.heap.size + 1 + 1, 0, none⟩ (.slice x8 (L.length + 1) c8)).ownsRow (w.heap.size + 3) 3 1 sv L.length (ints (vOf L))) := (by have h := S8.out.ov; rw [vOf_len] at h; exact h); have hb8 := (S5.out.keep hgrow8 (fun k hk => (own_at S5.out.og hk).1)).1; have y0 : w8.cell? ⟨w.heap.size + 1 + 1, 0, none⟩ = some sg := cell_of_heap hb8 0; have yf := free_of_heap hb8 0; clear hown8 hgrow8 hnil8 hat8 hb8)
          clear y0 yf d0 S5 O5
          generalize w8.setCell ⟨w.heap.size + 1 + 1, 0, none⟩ (.slice x8 (L.length + 1) c8) = w9 at *
          have d1 : w9.cell? ⟨w.heap.size + 1 + 1, 1, none⟩ = some sv := cell_of_heap S8.out.blk 1
          have hz9 := S8.out.size
          go_wp2_with (at_builtin; refine wpList_append_own_at _ rfl (.tmp 38) (.tmp 40) 25 rfl (w.heap.size + 3) 3 j0 _ 1 8 Tryz.underlying25 hj hy0 hy1 hy2 rfl (by decide) _ L.length (ints (vOf L)) rfl (O8.out.alloc _) _ 1 1 [.int .i64 ((v : Int) - 9)] rfl rfl (World.news_of_block (heap_alloc_new _ _)) (by intro u hu; simp at hu; rcases hu with rfl; rfl) (by unfold maxLen; omega) (by omega) (by simp; omega) ?_; intro v10 w10 hown10 hgrow10 hnil10 hat10; obtain ⟨x10, c10, rfl⟩ := ownS hown10; have S10 := hide (S8.out.pushV (by rw [vOf_len]; exact hown10) hgrow10 hat10 (by simp)); have hb10 := (S8.out.keep hgrow10 (fun k hk => (own_at S8.out.ov hk).1)).1; have y1 : w10.cell? ⟨w.heap.size + 1 + 1, 1, none⟩ = some sv := cell_of_heap hb10 1; have yf1 := free_of_heap hb10 1; clear hown10 hgrow10 hnil10 hat10 hb10)
          go_roundw
          case rel => exact ⟨i + 1, by omega, by go_num, _, _, _, L1, by rw [HG.out, HV.out]; exact S10.out, N5.out⟩
          case measure => simp [intOf]; omega
        · have hil' : ¬ (i : Int) < (k : Int) + 1 := by omega
          have N5 := hide (N4.out.up (by omega) (by omega))
          go_wp2
          go_roundw
          case rel => exact ⟨g + 1, by omega, by go_num, _, _, _, L, S4.out, N5.out⟩
          case measure => simp [intOf]; omega
    · have hlt' : ¬ (g : Int) < (n : Int) := by omega
      have d0 : wr.cell? ⟨w.heap.size + 1 + 1, 0, none⟩ = some sg := cell_of_heap S2.out.blk 0
      have d1 : wr.cell? ⟨w.heap.size + 1 + 1, 1, none⟩ = some sv := cell_of_heap S2.out.blk 1
      have r : Blk wr w.heap.size #[.slice none 0 0, .slice none 0 0] 27 := S2.out.res
      have r0 := r.cell 0
      have r1 := r.cell 1
      have f0 := free_of_heap r 0
      have f1 := free_of_heap r 1
      obtain ⟨x1, m1, c1, rfl⟩ := own_sl S2.out.og
      obtain ⟨x2, m2, c2, rfl⟩ := own_sl S2.out.ov
      go_wp2
      obtain ⟨l0, l1⟩ := set2 r (.slice x1 m1 c1) (.slice x2 m2 c2)
      refine bodyPost_ret (v := .agg #[.slice x1 m1 c1, .slice x2 m2 c2]) (by simp [results, Tryz.results13, go_sem, l0, l1]) rfl ⟨(S2.out.bl.setCell (p := ⟨w.heap.size, 0, none⟩) (by simp) _).setCell (p := ⟨w.heap.size, 1, none⟩) (by simp) _, _, _, L, rfl, ?_, ?_, N2.out.ok⟩
      · rw [← gOf_cells, ← gOf_len]
        exact RdG.ofOwn (own_set_far (own_set_far S2.out.og (fun k hk e => by have := (own_at S2.out.og hk).1; omega)) (fun k hk e => by have := (own_at S2.out.og hk).1; omega))
      · rw [← vOf_cells, ← vOf_len]
        exact RdG.ofOwn (own_set_far (own_set_far S2.out.ov (fun k hk e => by have := (own_at S2.out.ov hk).1; omega)) (fun k hk e => by have := (own_at S2.out.ov hk).1; omega))
end Go.Proofs.YtcoofnhdbejnpaaGreatDoor

/- Package paneskeep: the batch of a line. -/
namespace Go.Proofs.YtcoofnhdbejnpaaGreatDoor
open Go.RowKit
open Pk (LN Fx gAt vAt LineOk)
/-- the batch so far, behind the position j -/
def batJ (d : Bool) (L : LN) (j : Nat) : List Pv.Chg := ((Pk.tabK d L).drop j).reverse
theorem batJ_end (d : Bool) (L : LN) : batJ d L L.length = [] := by
  unfold batJ
  rw [List.drop_of_length_le (by rw [Pk.tabK_len]; exact Nat.le_refl _)]
  rfl
theorem batJ_step (d : Bool) (L : LN) (j : Nat) (h : j < L.length) : batJ d L j = batJ d L (j + 1) ++ [(Pk.rowK d L j, 1)] := by
  unfold batJ
  have hl : j < (Pk.tabK d L).length := by rw [Pk.tabK_len]; exact h
  rw [List.drop_eq_getElem_cons hl, List.reverse_cons]
  congr 2
  simp [Pk.tabK]
def BatPost (w : World) (d : Bool) (L : LN) (e : Ending) (w' : World) : Prop := Below w.heap.size w w' ∧ ∃ x n c, e = .returned (.slice x n c) ∧ RdC w' (.slice x n c) (Pk.tabK d L).reverse
set_option maxRecDepth 100000 in
set_option maxHeartbeats 2000000 in
theorem krows_any {w : World} {sg sv : Value} {L : LN} (hL : LM w sg sv L) (d : Bool) :
    Calls Tryz.prog 17 #[lv sg sv, .bool d] w fun e w' => BatPost w d L e w' := by
  obtain ⟨i0, hi0, hz0, hz1, hz2⟩ := info_parts infoChg
  obtain ⟨ag, cg, rfl⟩ := RdG.sl hL.rg
  obtain ⟨av, cv, rfl⟩ := RdG.sl hL.rv
  have HLM := hide hL
  have hl := hL.ok.len
  clear hL
  unfold lv
  go_enter Tryz.func17, Tryz.ntmps17
  go_upto_region 1 with fail
  have C0 := hide (K1.start w #[.slice ag L.length cg, .slice av L.length cv] 27)
  generalize (w.alloc (.cells #[.slice ag L.length cg, .slice av L.length cv] 27)) = w0 at *
  have AC : ∀ wx, Hid (Below w0.heap.size w0 wx → wx.cell? ⟨w.heap.size, 0, none⟩ = some (.slice ag L.length cg) ∧ wx.cell? ⟨w.heap.size, 1, none⟩ = some (.slice av L.length cv)) := fun wx h => ⟨cell_of_heap (C0.out.below h).a 0, cell_of_heap (C0.out.below h).a 1⟩
  obtain ⟨q0, q1⟩ := (AC w0).out (Below.refl _ _)
  go_wp2
  clear q0 q1
  go_loopw [5, 6] (fun s ii wr => ∃ k : Nat, k ≤ L.length ∧ ii = .int .i64 ((k : Int) - 1) ∧ (∃ x n c, s = .slice x n c) ∧ Hid (Below w0.heap.size w0 wr) ∧ Hid (wr.ownsRow w0.heap.size 50 4 s (L.length - k) (rchgs (batJ d L k)))) (fun _ ii _ => (intOf ii + 1).toNat)
  case atStart => exact ⟨L.length, Nat.le_refl _, by go_num, ⟨_, _, _, rfl⟩, Below.refl _ _, by rw [batJ_end, Nat.sub_self]; exact World.ownsRow_nil _ _ _ _⟩
  case round =>
    obtain ⟨k, hk, rfl, ⟨x, n, c, rfl⟩, B1, O1⟩ := hrel
    have hs1 := B1.out.size
    obtain ⟨q0, q1⟩ := (AC _).out B1.out
    cases k with
    | zero =>
      go_wp2
      go_ret
      refine ⟨(C0.out.below B1.out).bl, x, n, c, rfl, ?_⟩
      exact RdC.ofOwn O1.out
    | succ j =>
      have hj : j < L.length := by omega
      have hj' : (j : Int) < (L.length : Int) := by omega
      obtain ⟨gg, og, cg', eg, _⟩ := RdG.form1 HLM.out.rg (by omega)
      obtain ⟨gv, ov, cv', ev, _⟩ := RdG.form1 HLM.out.rv (by omega)
      cases eg
      cases ev
      have r1 := (HLM.out.below (C0.out.below B1.out).bl).g hj
      have r2 := (HLM.out.below (C0.out.below B1.out).bl).v hj
      obtain ⟨⟨b1, b2⟩, b3, b4⟩ := HLM.out.ok.at hj
      have HB : Hid (rchgs (batJ d L j) = rchgs (batJ d L (j + 1)) ++ rchg (((j : Int) + 1, Pk.kOf d (gAt L j), vAt L j), 1)) := by
        show _ = _
        rw [batJ_step d L j hj]
        exact rchgs_snoc _ _
      have hln : L.length - j = L.length - (j + 1) + 1 := by omega
      have hln2 : L.length - (j + 1) ≤ 30 := by omega
      generalize batJ d L (j + 1) = cur at *
      generalize L.length - (j + 1) = nn at *
      generalize gAt L j = gj at *
      generalize vAt L j = vj at *
      cases d
      · have HK : Hid (Pk.kOf false gj = 10 * gj) := rfl
        rw [HK.out] at HB
        go_wp2_with (at_builtin; refine wpList_append_own_at _ rfl (.tmp 25) (.tmp 36) 40 rfl w0.heap.size 50 i0 _ 4 32 Tryz.underlying40 hi0 hz0 hz1 hz2 rfl (by decide) _ nn (rchgs cur) rfl (O1.out.alloc _) _ 1 1 (rchg (((j : Int) + 1, 10 * gj, vj), 1)) rfl rfl (World.news_of_block (heap_alloc_new _ _)) (by intro u hu; simp [rchg] at hu; rcases hu with rfl | rfl | rfl | rfl <;> rfl) (by unfold maxLen; omega) (by omega) (by simp; omega) ?_; intro v8 w8 hown8 hgrow8 hnil8 hat8; have B8 := hide ((B1.out.alloc hs1 _).grown hgrow8 (by simp; omega) (fun k hk => (O1.out.lt k hk).1)); have O8 := hide hown8; have HF8 := hide (own_sl hown8); clear hown8 hgrow8 hnil8 hat8)
        go_roundw
        case rel => exact ⟨j, by omega, by go_num, HF8.out, B8, by rw [HB.out, hln]; exact O8⟩
        case measure => simp [intOf]
      · have HK : Hid (Pk.kOf true gj = -(10 * gj)) := rfl
        rw [HK.out] at HB
        go_wp2_with (at_builtin; refine wpList_append_own_at _ rfl (.tmp 25) (.tmp 36) 40 rfl w0.heap.size 50 i0 _ 4 32 Tryz.underlying40 hi0 hz0 hz1 hz2 rfl (by decide) _ nn (rchgs cur) rfl (O1.out.alloc _) _ 1 1 (rchg (((j : Int) + 1, -(10 * gj), vj), 1)) rfl rfl (World.news_of_block (heap_alloc_new _ _)) (by intro u hu; simp [rchg] at hu; rcases hu with rfl | rfl | rfl | rfl <;> rfl) (by unfold maxLen; omega) (by omega) (by simp; omega) ?_; intro v8 w8 hown8 hgrow8 hnil8 hat8; have B8 := hide ((B1.out.alloc hs1 _).grown hgrow8 (by simp; omega) (fun k hk => (O1.out.lt k hk).1)); have O8 := hide hown8; have HF8 := hide (own_sl hown8); clear hown8 hgrow8 hnil8 hat8)
        go_roundw
        case rel => exact ⟨j, by omega, by go_num, HF8.out, B8, by rw [HB.out, hln]; exact O8⟩
        case measure => simp [intOf]
end Go.Proofs.YtcoofnhdbejnpaaGreatDoor

