/- Package paneskeep: batch. -/
import Derived.Test.YtcoofnhdbejnpaaGreatDoorG32
namespace Go.Proofs.YtcoofnhdbejnpaaGreatDoor
open Go.RowKit
/-- a slice's block is the old one's or a new one -/
def Old (N : Nat) (v v' : Value) : Prop := ∀ k, v'.ownBlock = some k → v.ownBlock = some k ∨ N ≤ k
theorem Old.refl (N : Nat) (v : Value) : Old N v v := fun _ h => .inl h
theorem Old.trans {N M : Nat} {v v1 v2 : Value} (h : Old N v v1) (h2 : Old M v1 v2) (hNM : N ≤ M) : Old N v v2 := fun k hk => by
  rcases h2 k hk with q | q
  · exact h k q
  · exact .inr (by omega)
/-- all that a batch under way has in memory -/
structure BM (w wr : World) (bc B bf L : Nat) (vr vn : Value) (s : ByteArray) (st : Pk.BS) (v vr' vn' : Value) : Prop where
  but : But (CS bc vr vn) w wr
  fd : FD wr bf s st.a
  own : wr.ownsRow L 50 4 v st.l.length (rchgs st.l)
  cm : CM wr bc B vr' vn' st.cs st.all
  o1 : Old w.heap.size vr vr'
  o2 : Old w.heap.size vn vn'
/-- blocks of other types are none of the counts' -/
theorem CM.notIn {w : World} {bc B : Nat} {vr vn : Value} {cs : List Pv.Chg} {all : Int} (h : CM w bc B vr vn cs all) {k : Nat} {cur : Array Value} {T : Nat} {fz : Nat × Nat} (hk : w.heap[k]? = some (.cells cur T fz)) (h1 : T ≠ 66) (h2 : T ≠ 48) (h3 : T ≠ 3) : ¬ CS bc vr vn k := fun hc => by
  obtain ⟨_, c2, T2, f2, e, ht⟩ := h.kind k hc
  rw [hk] at e
  cases e
  rcases ht with q | q | q
  · exact h1 q
  · exact h2 q
  · exact h3 q
theorem CS.old {w : World} {bc : Nat} {vr vn vr' vn' : Value} (o1 : Old w.heap.size vr vr') (o2 : Old w.heap.size vn vn') {k : Nat} (hk : k < w.heap.size) (h : CS bc vr' vn' k) : CS bc vr vn k := by
  rcases h with h | h | h
  · exact .inl h
  · rcases o1 k h with q | q
    · exact .inr (.inl q)
    · omega
  · rcases o2 k h with q | q
    · exact .inr (.inr q)
    · omega
theorem But.via {S T : Nat → Prop} {w w1 w2 : World} (h : But S w w1) (k : But T w1 w2) (hs : ∀ i, i < w.heap.size → T i → S i) : But S w w2 := (h.trans k).weak (fun i hi q => by
  rcases q with q | q
  · exact q
  · exact hs i hi q.1)
theorem _root_.Go.Proofs.YtcoofnhdbejnpaaGreatDoor.Pk.DBInv.later {b0 : Int} {cs0 : List Pv.Chg} {st : Pk.BS} {m m' : Nat} (h : Pk.DBInv b0 cs0 st m) (hm : m ≤ m') : Pk.DBInv b0 cs0 st m' := ⟨h.inv, h.sum, Nat.le_trans h.len hm, h.chg⟩
/-- behind the row: the feed went on -/
theorem BM.row {w wr w1 : World} {bc B bf L a1 : Nat} {vr vn v vr' vn' : Value} {s : ByteArray} {st : Pk.BS} (h : BM w wr bc B bf L vr vn s st v vr' vn') (hf : FD w1 bf s a1) (hb : But (fun k => k = bf) wr w1) (hbf : w.heap.size ≤ bf) : BM w w1 bc B bf L vr vn s ⟨st.cs, st.all, a1, st.l⟩ v vr' vn' := by
  have hF := h.fd.feed
  refine ⟨h.but.via hb (fun i hi q => by omega), hf, own_but h.own hb (fun g hg e => ?_), h.cm.but hb (fun k hk e => ?_), h.o1, h.o2⟩
  · obtain ⟨c1, f1, e1⟩ := own_type h.own hg
    rw [e, hF] at e1; cases e1
  · subst e
    exact h.cm.notIn hF (by decide) (by decide) (by decide) hk
theorem BM.below {w wr w1 : World} {bc B bf L : Nat} {vr vn v vr' vn' : Value} {s : ByteArray} {st : Pk.BS} (h : BM w wr bc B bf L vr vn s st v vr' vn') (hb : Below wr.heap.size wr w1) : BM w w1 bc B bf L vr vn s st v vr' vn' :=
  ⟨h.but.of hb, h.fd.below hb, own_below h.own hb, h.cm.below hb, h.o1, h.o2⟩
/-- behind the index: there is room for the row -/
theorem BM.idx {w wr w1 : World} {bc B bf L : Nat} {vr vn v vr' vn' vr2 vn2 : Value} {s : ByteArray} {st : Pk.BS} {cs2 : List Pv.Chg} (h : BM w wr bc B bf L vr vn s st v vr' vn') (hb : But (CS bc vr' vn') wr w1) (hc : CM w1 bc B vr2 vn2 cs2 st.all) (o1 : Old wr.heap.size vr' vr2) (o2 : Old wr.heap.size vn' vn2) : BM w w1 bc B bf L vr vn s ⟨cs2, st.all, st.a, st.l⟩ v vr2 vn2 := by
  refine ⟨h.but.via hb (fun i hi q => CS.old h.o1 h.o2 hi q), h.fd.but hb (h.cm.notIn h.fd.feed (by decide) (by decide) (by decide)), own_but h.own hb (fun g hg => ?_), hc, h.o1.trans o1 h.but.size, h.o2.trans o2 h.but.size⟩
  obtain ⟨c1, f1, e1⟩ := own_type h.own hg
  exact h.cm.notIn e1 (by decide) (by decide) (by decide)
theorem BM.nx {w wr w1 : World} {bc B bf L a1 : Nat} {vr vn v vr' vn' : Value} {s : ByteArray} {cs : List Pv.Chg} {all : Int} {a : Nat} {l : List Pv.Chg} (h : BM w wr bc B bf L vr vn s ⟨cs, all, a, l⟩ v vr' vn') (hf : FD w1 bf s a1) (hb : But (fun k => k = bf) wr w1) (hbf : w.heap.size ≤ bf) : BM w w1 bc B bf L vr vn s ⟨cs, all, a1, l⟩ v vr' vn' := h.row hf hb hbf
def BatchPost (w : World) (bc B : Nat) (vr vn : Value) (cs : List Pv.Chg) (all : Int) (s : ByteArray) (e : Ending) (w' : World) : Prop :=
  But (CS bc vr vn) w w' ∧ ∃ x n c vr' vn', e = .returned (.slice x n c) ∧ w'.ownsRow w.heap.size 50 4 (.slice x n c) (Pk.batchF s.data.toList cs all).l.length (rchgs (Pk.batchF s.data.toList cs all).l) ∧ CM w' bc B vr' vn' (Pk.batchF s.data.toList cs all).cs (Pk.batchF s.data.toList cs all).all ∧ Old w.heap.size vr vr' ∧ Old w.heap.size vn vn'
def BLoop (b0 : Int) (w wr : World) (bc B bf L : Nat) (vr vn : Value) (s : ByteArray) (cs : List Pv.Chg) (all : Int) (m : Nat) (v : Value) : Prop :=
  ∃ st vr' vn', BM w wr bc B bf L vr vn s st v vr' vn' ∧ Pk.DBInv b0 cs st (8 - m) ∧ Pk.stepsB s.data.toList m st = Pk.batchF s.data.toList cs all
theorem own_free1 {w : World} {B T sz g cap n : Nat} {xs : List Value} (h : w.ownsRow B T sz (.slice (some ⟨g, 0, none⟩) n cap) n xs) (j : Nat) : w.frozen? ⟨g, j, none⟩ = false := by
  rcases h.2 with ⟨h1, _⟩ | ⟨g', cap', cur, h1, h2, h3, _⟩
  · cases h1
  · cases h1; exact free_of_heap h3 j
theorem rints_set (cs : List Pv.Chg) (j : Nat) (c : Pv.Chg) : rints (cs.set j c) = (rints cs).set j (.int .i64 c.2) := by
  unfold rints
  rw [List.map_set]
theorem own_set1 {T : Nat} {w : World} {B g cap n : Nat} {l : List Pv.Chg} (h : w.ownsRow B T 1 (.slice (some ⟨g, 0, none⟩) n cap) n (rints l)) (j : Nat) (c : Pv.Chg) :
    (w.setCell ⟨g, j, none⟩ (.int .i64 c.2)).ownsRow B T 1 (.slice (some ⟨g, 0, none⟩) n cap) n (rints (l.set j c)) := by
  have hl := h.1
  refine ⟨by rw [rints_set, List.length_set]; exact hl, ?_⟩
  rcases h.2 with ⟨h1, _⟩ | ⟨g', cap', cur, h1, h2, h3, h4, h5, h6, h7⟩
  · cases h1
  · cases h1
    refine .inr ⟨g, cap, cur.setIfInBounds j (.int .i64 c.2), rfl, h2, ?_, h4, h5, by simpa using h6, ?_⟩
    · simp [World.setCell, Array.getElem?_modify, h3]
    · rw [rints_set, ← h7]
      simp only [Array.toList_setIfInBounds]
      rw [List.take_set]
theorem crows_set {cs : List Pv.Chg} {j : Nat} (hj : j < cs.length) {r : Pv.R3} (hr : cs[j].1 = r) (m : Int) : crows (cs.set j (r, m)) = crows cs := by
  unfold crows
  rw [List.map_set]
  congr 1
  refine List.ext_getElem (by simp) (fun i h1 h2 => ?_)
  rw [List.getElem_set]
  split
  · rename_i e; subst e; simp [hr]
  · rfl
/-- behind the two stores -/
theorem BM.put {w wr : World} {bc B bf L g cap j : Nat} {vr vn v vr' : Value} {s : ByteArray} {cs : List Pv.Chg} {all : Int} {a : Nat} {l : List Pv.Chg} (h : BM w wr bc B bf L vr vn s ⟨cs, all, a, l⟩ v vr' (.slice (some ⟨g, 0, none⟩) cs.length cap)) (hj : j < cs.length) {r : Pv.R3} (hr : cs[j].1 = r) (m all2 : Int) :
    BM w ((wr.setCell ⟨g, j, none⟩ (.int .i64 m)).setCell ⟨bc, 2, none⟩ (.int .i64 all2)) bc B bf L vr vn s ⟨cs.set j (r, m), all2, a, l⟩ v vr' (.slice (some ⟨g, 0, none⟩) cs.length cap) := by
  have hg : CS bc vr' (.slice (some ⟨g, 0, none⟩) cs.length cap) g := .inr (.inr rfl)
  have hcb : CS bc vr' (.slice (some ⟨g, 0, none⟩) cs.length cap) bc := .inl rfl
  have hbu : But (CS bc vr' (.slice (some ⟨g, 0, none⟩) cs.length cap)) wr ((wr.setCell ⟨g, j, none⟩ (.int .i64 m)).setCell ⟨bc, 2, none⟩ (.int .i64 all2)) := ((But.refl _ wr).setIn g j _ (fun _ => hg)).setIn bc 2 _ (fun _ => hcb)
  have hne : g ≠ bc := h.cm.ne.2 g rfl
  refine ⟨h.but.via hbu (fun i hi q => CS.old h.o1 h.o2 hi q), h.fd.but hbu (h.cm.notIn h.fd.feed (by decide) (by decide) (by decide)), own_but h.own hbu (fun k hk => ?_), ⟨?_, ?_, ?_⟩, h.o1, h.o2⟩
  · obtain ⟨c1, f1, e1⟩ := own_type h.own hk
    exact h.cm.notIn e1 (by decide) (by decide) (by decide)
  · refine set32 (v2 := .int .i64 all) ?_ _
    rw [set_far _ _ _ _ _ (Ne.symm hne)]; exact h.cm.blk
  · rw [crows_set hj hr, List.length_set]
    exact own_set_far (own_set_far h.cm.rr (fun k hk e => (h.cm.ne.1 k hk).2 (by rw [e]; rfl))) (fun k hk => (h.cm.ne.1 k hk).1)
  · rw [List.length_set]
    exact own_set_far (own_set1 h.cm.rn j (r, m)) (fun k hk => by cases hk; exact hne)
theorem BM.drewM {w wr : World} {bc B bf L : Nat} {vr vn v vr' vn' : Value} {s : ByteArray} {st : Pk.BS} (h : BM w wr bc B bf L vr vn s st v vr' vn') (n : Nat) : BM w (wr.drewN n) bc B bf L vr vn s st v vr' vn' := h.below (below_drewM (Below.refl _ _) n)
theorem BM.app {w wr W w8 : World} {bc B bf L n : Nat} {vr vn v v8 vr' vn' : Value} {s : ByteArray} {cs : List Pv.Chg} {all : Int} {a : Nat} {l : List Pv.Chg} {c : Pv.Chg} (h : BM w wr bc B bf L vr vn s ⟨cs, all, a, l⟩ v vr' vn') (hW : Below wr.heap.size wr W) (hg : W.grownBy w8 v.ownBlock) (hL : w.heap.size ≤ L) (hown : w8.ownsRow L 50 4 v8 n (rchgs l ++ rchg c)) : BM w w8 bc B bf L vr vn s ⟨cs, all, a, l ++ [c]⟩ v8 vr' vn' := by
  have h2 := h.below hW
  have hbu : But (fun k => v.ownBlock = some k) W w8 := (But.refl _ W).grown hg (fun k hk _ => hk)
  have hn : n = (l ++ [c]).length := by
    have := hown.1
    rw [← rchgs_snoc, rchgs_len] at this
    omega
  refine ⟨h2.but.via hbu (fun i hi q => ?_), h2.fd.but hbu (fun e => ?_), ?_, h2.cm.but hbu (fun k hk e => ?_), h.o1, h.o2⟩
  · have := (own_at h2.own q).1
    omega
  · obtain ⟨c1, f1, e1⟩ := own_type h2.own e
    rw [h2.fd.feed] at e1; cases e1
  · show w8.ownsRow L _ 4 v8 (l ++ [c]).length (rchgs (l ++ [c]))
    rw [← hn, rchgs_snoc]; exact hown
  · obtain ⟨c1, f1, e1⟩ := own_type h2.own e
    exact h2.cm.notIn e1 (by decide) (by decide) (by decide) hk
/-- behind the first store -/
structure PuW (w wy : World) (bc B bf g cap br j : Nat) (vr vn : Value) (s : ByteArray) (cs : List Pv.Chg) (all all2 : Int) (a : Nat) (l : List Pv.Chg) (r : Pv.R3) (m : Int) (v vr' : Value) : Prop where
  ne : br ≠ bc
  blk : wy.heap[bc]? = some (.cells #[vr', .slice (some ⟨g, 0, none⟩) cs.length cap, .int .i64 all] 66 (0, 0))
  box : wy.heap[br]? = some (.cells #[.int .i64 r.1, .int .i64 r.2.1, .int .i64 r.2.2] 48 (0, 0))
  nx : BM w (wy.setCell ⟨bc, 2, none⟩ (.int .i64 all2)) bc B bf bf vr vn s ⟨cs.set j (r, m), all2, a, l⟩ v vr' (.slice (some ⟨g, 0, none⟩) cs.length cap)
theorem PuW.of {w W : World} {bc B bf g cap br j : Nat} {vr vn v vr' : Value} {s : ByteArray} {cs : List Pv.Chg} {all : Int} {a : Nat} {l : List Pv.Chg} {r : Pv.R3} (h : BM w W bc B bf bf vr vn s ⟨cs, all, a, l⟩ v vr' (.slice (some ⟨g, 0, none⟩) cs.length cap)) (hj : j < cs.length) (hr : cs[j].1 = r) (hbx : W.heap[br]? = some (.cells #[.int .i64 r.1, .int .i64 r.2.1, .int .i64 r.2.2] 48 (0, 0))) (m all2 : Int) :
    PuW w (W.setCell ⟨g, j, none⟩ (.int .i64 m)) bc B bf g cap br j vr vn s cs all all2 a l r m v vr' := by
  have hne : g ≠ bc := h.cm.ne.2 g rfl
  refine ⟨fun e => ?_, ?_, ?_, h.put hj hr m all2⟩
  · rw [e, h.cm.blk] at hbx; cases hbx
  · rw [set_far _ _ _ _ _ (Ne.symm hne)]; exact h.cm.blk
  · have : br ≠ g := fun e => by
      obtain ⟨c1, f1, e1⟩ := own_type h.cm.rn (k := g) rfl
      rw [← e, hbx] at e1; cases e1
    rw [set_far _ _ _ _ _ this]; exact hbx
set_option maxRecDepth 100000 in
set_option maxHeartbeats 8000000 in
theorem dbatch_any {bs0 : Int} {w : World} {bc B : Nat} {vr vn : Value} {cs : List Pv.Chg} {all : Int} (h : CM w bc B vr vn cs all) (hi : Pk.DInv bs0 cs all) (hB : B ≤ w.heap.size) {s : ByteArray} (hs : s.size ≤ maxLen) :
    Calls Tryz.prog 24 #[.pointer (some ⟨bc, 0, none⟩), .string s] w fun e w' => BatchPost w bc B vr vn cs all s e w' := by
  obtain ⟨i0, hti, hz0, hz1, hz2⟩ := info_parts infoChg
  have HC := hide h
  have HI := hide hi
  have HS := hide hs
  clear h hi hs
  go_enter Tryz.func24, Tryz.ntmps24
  go_upto_region 2 with fail
  have F0 : Hid (FD (w.alloc (.cells #[.string s, .int .i64 0] 31)) w.heap.size s 0) := ⟨heap_alloc_new w _, Nat.zero_le _, HS.out⟩
  have b0 := hide ((Below.refl w.heap.size w).alloc (Nat.le_refl _) (.cells #[.string s, .int .i64 0] 31))
  generalize w.alloc (.cells #[.string s, .int .i64 0] 31) = w0 at *
  have M0 : Hid (BM w w0 bc B w.heap.size w.heap.size vr vn s ⟨cs, all, 0, []⟩ (.slice none 0 0) vr vn) := ⟨But.ofB b0.out, F0.out, World.ownsRow_nil _ _ _ _, HC.out.below b0.out, Old.refl _ _, Old.refl _ _⟩
  have hbf : Hid (w.heap.size ≤ w.heap.size) := Nat.le_refl _
  have hb0 := b0.out.size
  go_wp2_with fail
  refine (fnext3 F0.out 9 9 rfl (by omega) (by omega)).mono ?_
  rintro e w1 ⟨rfl, f1, b1⟩
  have HB1 : Hid (BLoop bs0 w w1 bc B w.heap.size w.heap.size vr vn s cs all (Pk.nxt s.data.toList 0 9) (.slice none 0 0)) := ⟨_, vr, vn, M0.out.row f1 b1 hbf.out, ⟨HI.out, fun r => by simp [Pv.sumOf], Nat.zero_le _, fun c hc => by simp at hc⟩, rfl⟩
  have n9 := Pk.nxt_lt s.data.toList 0 9 (by omega)
  have hs1 : w.heap.size ≤ w1.heap.size := Nat.le_trans hb0 b1.size
  generalize Pk.nxt s.data.toList 0 9 = m0 at *
  clear f1 b1 M0 F0 b0
  generalize hbfe : w.heap.size = bf at *
  have HBFE := hide hbfe
  clear hbfe
  go_wp2
  go_loopw [6, 7] (fun l i wr => ∃ m : Nat, i = .int .i64 m ∧ m ≤ 8 ∧ bf ≤ wr.heap.size ∧ (∃ x n c, l = .slice x n c) ∧ Hid (BLoop bs0 w wr bc B bf bf vr vn s cs all m l)) (fun _ i _ => (intOf i).toNat)
  case atStart => exact ⟨m0, rfl, by omega, hs1, ⟨_, _, _, rfl⟩, HB1⟩
  case round =>
    obtain ⟨m, rfl, hm8, hbr, ⟨xl, nl, cl, rfl⟩, HL⟩ := hrel
    by_cases hm : 0 < m
    · have hm' : (0 : Int) < (m : Int) := by omega
      obtain ⟨st, vr1, vn1, hbm, hinv, hst⟩ := HL.out
      have M1 := hide hbm
      have V1 := hide hinv
      have ST1 := hide hst
      have HLT := hide hbm.fd.lt
      clear hbm hinv hst HL HB1
      go_wp2_with fail
      refine (rowOf_any M1.out.fd).mono ?_
      rintro e w2 ⟨rfl, f2, b2⟩
      have M2 := hide (M1.out.row f2 b2 (by rw [HBFE.out]; exact Nat.le_refl _))
      have hs2 := b2.size
      have R2 := hide (Pk.rowF_ok s.data.toList st.a)
      have A2 := hide (Pk.rowF_all s.data.toList st.a)
      have SP2 : Hid (Pk.stepB s.data.toList st = Pk.putB (Pk.rowF s.data.toList st.a).1 (Pk.kF s.data.toList (Pk.rowF s.data.toList st.a).2) (Pk.adv s.data.toList (Pk.adv s.data.toList (Pk.rowF s.data.toList st.a).2)) st) := rfl
      clear f2 b2 M1
      generalize (Pk.rowF s.data.toList st.a).2 = a2 at *
      generalize (Pk.rowF s.data.toList st.a).1 = r at *
      obtain ⟨p, u, q⟩ := r
      go_upto_region 7 with fail
      have D3 := hide (heap_alloc_new w2 (.cells #[.int .i64 p, .int .i64 u, .int .i64 q] 48))
      have b3 := hide ((Below.refl w2.heap.size w2).alloc (Nat.le_refl _) (.cells #[.int .i64 p, .int .i64 u, .int .i64 q] 48))
      have hs3 : w2.heap.size < (w2.alloc (.cells #[.int .i64 p, .int .i64 u, .int .i64 q] 48)).heap.size := by simp
      have M3 := hide (M2.out.below b3.out)
      have N3 : Hid (¬ CS bc vr1 vn1 w2.heap.size) := fun hc => Nat.lt_irrefl _ (M2.out.cm.kind _ hc).1
      generalize w2.alloc (.cells #[.int .i64 p, .int .i64 u, .int .i64 q] 48) = w3 at *
      generalize w2.heap.size = br at *
      have d0 : w3.cell? ⟨br, 0, none⟩ = some (.int .i64 p) := cell_of_heap D3.out 0
      have d1 : w3.cell? ⟨br, 1, none⟩ = some (.int .i64 u) := cell_of_heap D3.out 1
      have d2 : w3.cell? ⟨br, 2, none⟩ = some (.int .i64 q) := cell_of_heap D3.out 2
      have HLN := hide V1.out.inv.len
      have HLL : Hid (st.l.length ≤ 8 - m) := V1.out.len
      go_wp2_with fail
      refine (index_any M3.out.cm (by omega) (by have := HLN.out; simp only []; omega) p u q).mono ?_
      rintro e w4 ⟨rfl, b4, x4, n4, c4, x5, n5, c5, cm4, o4, o5⟩
      have M4 := hide (M3.out.idx b4 cm4 o4 o5)
      have D4 : Hid (w4.heap[br]? = some (.cells #[.int .i64 p, .int .i64 u, .int .i64 q] 48 (0, 0))) := (b4.block br hs3 N3.out).trans D3.out
      have hs4 := b4.size
      clear b4 cm4 o4 o5 d0 d1 d2 M3 D3 M2
      go_wp2_with fail
      refine (fnext3 M4.out.fd 3 3 rfl (by omega) (by omega)).mono ?_
      rintro e w5 ⟨rfl, f5, b5⟩
      have hbr2 : br ≠ bf := by have := HLT.out; omega
      have M5 := hide (M4.out.nx f5 b5 (by rw [HBFE.out]; exact Nat.le_refl _))
      have D5 : Hid (w5.heap[br]? = some (.cells #[.int .i64 p, .int .i64 u, .int .i64 q] 48 (0, 0))) := (b5.block br (by omega) hbr2).trans D4.out
      have hs5 := b5.size
      have hn5 := Pk.nxt_lt s.data.toList a2 3 (by omega)
      clear f5 b5 M4 D4
      go_wp2_with fail
      refine (fnext3 M5.out.fd 3 3 rfl (by omega) (by omega)).mono ?_
      rintro e w6 ⟨rfl, f6, b6⟩
      have M6 := hide (M5.out.nx f6 b6 (by rw [HBFE.out]; exact Nat.le_refl _))
      have D6 : Hid (w6.heap[br]? = some (.cells #[.int .i64 p, .int .i64 u, .int .i64 q] 48 (0, 0))) := (b6.block br (by omega) hbr2).trans D5.out
      have hs6 := b6.size
      have hn6 := Pk.nxt_lt s.data.toList (Pk.adv s.data.toList a2) 3 (by omega)
      clear f6 b6 M5 D5
      have KF : Hid (Pk.kF s.data.toList a2 = if Pk.nxt s.data.toList (Pk.adv s.data.toList a2) 3 = 1 then -(1 + ((Pk.nxt s.data.toList a2 3 : Nat) : Int)) else 1 + ((Pk.nxt s.data.toList a2 3 : Nat) : Int)) := rfl
      generalize Pk.kF s.data.toList a2 = k0 at *
      generalize Pk.nxt s.data.toList (Pk.adv s.data.toList a2) 3 = y at *
      generalize Pk.nxt s.data.toList a2 3 = z at *
      generalize Pk.adv s.data.toList (Pk.adv s.data.toList a2) = a6 at *
      -- the counts, with room
      have hat := Pk.roomC_at (p, u, q) st.cs
      have V6 := hide (V1.out.inv.room (r := (p, u, q)) R2.out A2.out)
      have hx0 := V6.out.nn _ (List.getElem_mem hat)
      have hx1 := Pk.total_one V6.out.nn _ (List.getElem_mem hat)
      replace hx1 : ((Pk.roomC (p, u, q) st.cs)[Pk.idxF (p, u, q) st.cs]'hat).2 ≤ st.all := by
        have ht := V6.out.tot
        have hb := V6.out.base
        omega
      have hx2 := V6.out.top
      have PB : Hid (Pk.stepB s.data.toList st = if 40 < st.all + Pk.kkF ((Pk.roomC (p, u, q) st.cs)[Pk.idxF (p, u, q) st.cs]'hat).2 k0 ∨ Pk.kkF ((Pk.roomC (p, u, q) st.cs)[Pk.idxF (p, u, q) st.cs]'hat).2 k0 = 0 then ⟨Pk.roomC (p, u, q) st.cs, st.all, a6, st.l⟩ else ⟨(Pk.roomC (p, u, q) st.cs).set (Pk.idxF (p, u, q) st.cs) ((p, u, q), ((Pk.roomC (p, u, q) st.cs)[Pk.idxF (p, u, q) st.cs]'hat).2 + Pk.kkF ((Pk.roomC (p, u, q) st.cs)[Pk.idxF (p, u, q) st.cs]'hat).2 k0), st.all + Pk.kkF ((Pk.roomC (p, u, q) st.cs)[Pk.idxF (p, u, q) st.cs]'hat).2 k0, a6, st.l ++ [((p, u, q), Pk.kkF ((Pk.roomC (p, u, q) st.cs)[Pk.idxF (p, u, q) st.cs]'hat).2 k0)]⟩) := SP2.out
      have hch := rints_get _ _ hat
      have HJR : Hid (∀ hh : Pk.idxF (p, u, q) st.cs < (Pk.roomC (p, u, q) st.cs).length, ((Pk.roomC (p, u, q) st.cs)[Pk.idxF (p, u, q) st.cs]'hh).1 = (p, u, q)) := fun _ => Pk.roomC_get (p, u, q) st.cs
      have hlr := V6.out.len
      clear SP2
      generalize ((Pk.roomC (p, u, q) st.cs)[Pk.idxF (p, u, q) st.cs]'hat).2 = n at *
      generalize Pk.roomC (p, u, q) st.cs = cs2 at *
      generalize Pk.idxF (p, u, q) st.cs = j at *
      have VS := hide (V1.out.step (b := s.data.toList))
      have HSS : Hid (Pk.stepsB s.data.toList (m - 1) (Pk.stepB s.data.toList st) = Pk.batchF s.data.toList cs all) := by
        have := ST1.out
        rw [show m = m - 1 + 1 by omega] at this
        exact this
      clear V1 ST1
      generalize Pk.stepB s.data.toList st = st2 at *
      obtain ⟨cs1, al, a1, l⟩ := st
      simp only [] at *
      obtain ⟨g5, c6, e6⟩ : ∃ g c, Value.slice x5 n5 c5 = .slice (some ⟨g, 0, none⟩) cs2.length c := by
        rcases own_form M6.out.cm.rn with ⟨h1, h2⟩ | ⟨g, c, h1⟩
        · have h3 : cs2.length = 0 := h2
          omega
        · exact ⟨g, c, h1⟩
      cases e6
      have t1 : w6.cell? ⟨bc, 1, none⟩ = some (.slice (some ⟨g5, 0, none⟩) cs2.length c5) := cell_of_heap M6.out.cm.blk 1
      have t2 : w6.cell? ⟨bc, 2, none⟩ = some (.int .i64 al) := cell_of_heap M6.out.cm.blk 2
      have tn : w6.cell? ⟨g5, j, none⟩ = some (.int .i64 n) := by
        have := RdG.cell (RdG.ofOwn M6.out.cm.rn) _ _ hch
        rw [Nat.zero_add] at this
        exact this
      have tf := own_free1 M6.out.cm.rn j
      have HKB : Hid (-3 ≤ k0 ∧ k0 ≤ 3) := by
        show _ ∧ _
        rw [KF.out]
        split <;> omega
      have hjl : (j : Int) < (cs2.length : Int) := by omega
      clear hch
      have hyc : Hid (y = 1) ∧ ((y : Int) == 1) = true ∨ Hid (¬ y = 1) ∧ ((y : Int) == 1) = false := by
        by_cases e : y = 1
        · exact .inl ⟨e, by simp [e]⟩
        · exact .inr ⟨e, by rw [beq_eq_false_iff_ne]; omega⟩
      rcases hyc with ⟨HY, hy⟩ | ⟨HY, hy⟩
      · have HK : Hid (k0 = -(1 + (z : Int))) := by show _ = _; rw [KF.out, if_pos HY.out]
        go_upto_region 11 with fail
        generalize hkk : -(1 + (z : Int)) = k1 at *
        have HKK := hide hkk
        clear hkk
        obtain rfl : k1 = k0 := HK.out.symm
        have hk3 := HKB.out
        have HKW : Hid (-40 ≤ Pk.kkF n k1 ∧ Pk.kkF n k1 ≤ 40 ∧ 0 ≤ n + Pk.kkF n k1) := by show _ ∧ _ ∧ _; unfold Pk.kkF; split <;> omega
        by_cases hneg : n + k1 < 0
        · have HKE : Hid (-n = Pk.kkF n k1) := by show _ = _; unfold Pk.kkF; rw [if_pos hneg]
          go_upto_region 13 with fail
          generalize hke : -n = kx at *
          obtain rfl : Pk.kkF n k1 = kx := HKE.out.symm
          have HKX := hide hke
          clear hke
          have PC := hide PB.out
          clear PB KF
          generalize Pk.kkF n k1 = kk at *
          have hkk4 : -40 ≤ kk ∧ kk ≤ 40 ∧ 0 ≤ n + kk := HKW.out
          by_cases h40 : 40 < al + kk
          · have SK : Hid (st2 = ⟨cs2, al, a6, l⟩) := by show _ = _; rw [PC.out, if_pos (.inl h40)]
            go_wp2
            go_roundw
            case rel => exact ⟨m - 1, by go_num, by omega, by omega, ⟨_, _, _, rfl⟩, _, _, _, by rw [SK.out]; exact M6.out, VS.out.later (by omega), HSS.out⟩
            case measure => simp [intOf]; omega
          · by_cases h00 : kk = 0
            · have SK : Hid (st2 = ⟨cs2, al, a6, l⟩) := by show _ = _; rw [PC.out, if_pos (.inr h00)]
              have h00' : (kk == 0) = true := by simp [h00]
              clear h00
              go_wp2
              go_roundw
              case rel => exact ⟨m - 1, by go_num, by omega, by omega, ⟨_, _, _, rfl⟩, _, _, _, by rw [SK.out]; exact M6.out, VS.out.later (by omega), HSS.out⟩
              case measure => simp [intOf]; omega
            · have SK : Hid (st2 = ⟨cs2.set j ((p, u, q), n + kk), al + kk, a6, l ++ [((p, u, q), kk)]⟩) := by show _ = _; rw [PC.out, if_neg (by intro h; rcases h with h | h; exact h40 h; exact h00 h)]
              have h00' : (kk == 0) = false := by simp [h00]
              clear h00
              go_upto_region 14 with fail
              go_cut [62] from 62 to 91 (fun q62 wy => PuW w wy bc B bf g5 c5 br j vr vn s cs2 al (al + kk) a6 l (p, u, q) (n + kk) (.slice xl nl cl) (.slice x4 n4 c4))
              case first =>
                go_region
                all_goals
                  go_wp2
                  go_meet
                  case rel => exact PuW.of (M6.out.drewM _) hat (HJR.out hat) D6.out _ _
              case rest =>
                have P9 := hide hcut
                clear hcut t1 t2 tn tf
                have t2 : wc.cell? ⟨bc, 2, none⟩ = some (.int .i64 al) := cell_of_heap P9.out.blk 2
                have tf := free_of_heap P9.out.blk 2
                go_upto_region 16 with fail
                have N9 := hide P9.out.nx
                have X9 : Hid ((wc.setCell ⟨bc, 2, none⟩ (.int .i64 (al + kk))).heap[br]? = some (.cells #[.int .i64 p, .int .i64 u, .int .i64 q] 48 (0, 0))) := (set_far _ _ _ _ _ P9.out.ne).trans P9.out.box
                clear t2 tf P9
                generalize wc.setCell ⟨bc, 2, none⟩ (.int .i64 (al + kk)) = w9 at *
                have d0 : w9.cell? ⟨br, 0, none⟩ = some (.int .i64 p) := cell_of_heap X9.out 0
                have d1 : w9.cell? ⟨br, 1, none⟩ = some (.int .i64 u) := cell_of_heap X9.out 1
                have d2 : w9.cell? ⟨br, 2, none⟩ = some (.int .i64 q) := cell_of_heap X9.out 2
                have hll : l.length ≤ 8 - m := HLL.out
                have hs9 := N9.out.fd.lt
                go_wp2_with (at_builtin; refine wpList_append_own_at _ rfl (.tmp 86) (.tmp 90) 40 rfl bf 50 i0 _ 4 32 Tryz.underlying40 hti hz0 hz1 hz2 rfl (by decide) _ l.length (rchgs l) rfl (N9.out.own.alloc _) _ 1 1 (rchg ((p, u, q), kk)) rfl rfl (World.news_of_block (heap_alloc_new _ _)) (by intro u hu; simp [rchg] at hu; rcases hu with rfl | rfl | rfl | rfl <;> rfl) (by unfold maxLen; omega) (by omega) (by simp; omega) ?_; intro v8 w8 hown8 hgrow8 hnil8 hat8; obtain ⟨x8, c8, rfl⟩ := ownS hown8; have N8 := hide (N9.out.app ((Below.refl _ _).alloc (Nat.le_refl _) _) hgrow8 (by rw [HBFE.out]; exact Nat.le_refl _) hown8); have hs8 := N8.out.fd.lt; clear hown8 hgrow8 hnil8 hat8)
                go_roundw
                case rel => exact ⟨m - 1, by go_num, by omega, by omega, ⟨_, _, _, rfl⟩, _, _, _, by rw [SK.out]; exact N8.out, VS.out.later (by omega), HSS.out⟩
                case measure => simp [intOf]; omega
        · have HKE : Hid (k1 = Pk.kkF n k1) := by show _ = _; unfold Pk.kkF; rw [if_neg hneg]
          go_upto_region 13 with fail
          have PC := hide PB.out
          clear PB KF
          generalize Pk.kkF n k1 = kk at *
          obtain rfl : kk = k1 := HKE.out.symm
          have hkk4 : -40 ≤ kk ∧ kk ≤ 40 ∧ 0 ≤ n + kk := HKW.out
          by_cases h40 : 40 < al + kk
          · have SK : Hid (st2 = ⟨cs2, al, a6, l⟩) := by show _ = _; rw [PC.out, if_pos (.inl h40)]
            go_wp2
            go_roundw
            case rel => exact ⟨m - 1, by go_num, by omega, by omega, ⟨_, _, _, rfl⟩, _, _, _, by rw [SK.out]; exact M6.out, VS.out.later (by omega), HSS.out⟩
            case measure => simp [intOf]; omega
          · by_cases h00 : kk = 0
            · have SK : Hid (st2 = ⟨cs2, al, a6, l⟩) := by show _ = _; rw [PC.out, if_pos (.inr h00)]
              have h00' : (kk == 0) = true := by simp [h00]
              clear h00
              go_wp2
              go_roundw
              case rel => exact ⟨m - 1, by go_num, by omega, by omega, ⟨_, _, _, rfl⟩, _, _, _, by rw [SK.out]; exact M6.out, VS.out.later (by omega), HSS.out⟩
              case measure => simp [intOf]; omega
            · have SK : Hid (st2 = ⟨cs2.set j ((p, u, q), n + kk), al + kk, a6, l ++ [((p, u, q), kk)]⟩) := by show _ = _; rw [PC.out, if_neg (by intro h; rcases h with h | h; exact h40 h; exact h00 h)]
              have h00' : (kk == 0) = false := by simp [h00]
              clear h00
              go_upto_region 14 with fail
              go_cut [62] from 62 to 91 (fun q62 wy => PuW w wy bc B bf g5 c5 br j vr vn s cs2 al (al + kk) a6 l (p, u, q) (n + kk) (.slice xl nl cl) (.slice x4 n4 c4))
              case first =>
                go_region
                all_goals
                  go_wp2
                  go_meet
                  case rel => exact PuW.of (M6.out.drewM _) hat (HJR.out hat) D6.out _ _
              case rest =>
                have P9 := hide hcut
                clear hcut t1 t2 tn tf
                have t2 : wc.cell? ⟨bc, 2, none⟩ = some (.int .i64 al) := cell_of_heap P9.out.blk 2
                have tf := free_of_heap P9.out.blk 2
                go_upto_region 16 with fail
                have N9 := hide P9.out.nx
                have X9 : Hid ((wc.setCell ⟨bc, 2, none⟩ (.int .i64 (al + kk))).heap[br]? = some (.cells #[.int .i64 p, .int .i64 u, .int .i64 q] 48 (0, 0))) := (set_far _ _ _ _ _ P9.out.ne).trans P9.out.box
                clear t2 tf P9
                generalize wc.setCell ⟨bc, 2, none⟩ (.int .i64 (al + kk)) = w9 at *
                have d0 : w9.cell? ⟨br, 0, none⟩ = some (.int .i64 p) := cell_of_heap X9.out 0
                have d1 : w9.cell? ⟨br, 1, none⟩ = some (.int .i64 u) := cell_of_heap X9.out 1
                have d2 : w9.cell? ⟨br, 2, none⟩ = some (.int .i64 q) := cell_of_heap X9.out 2
                have hll : l.length ≤ 8 - m := HLL.out
                have hs9 := N9.out.fd.lt
                go_wp2_with (at_builtin; refine wpList_append_own_at _ rfl (.tmp 86) (.tmp 90) 40 rfl bf 50 i0 _ 4 32 Tryz.underlying40 hti hz0 hz1 hz2 rfl (by decide) _ l.length (rchgs l) rfl (N9.out.own.alloc _) _ 1 1 (rchg ((p, u, q), kk)) rfl rfl (World.news_of_block (heap_alloc_new _ _)) (by intro u hu; simp [rchg] at hu; rcases hu with rfl | rfl | rfl | rfl <;> rfl) (by unfold maxLen; omega) (by omega) (by simp; omega) ?_; intro v8 w8 hown8 hgrow8 hnil8 hat8; obtain ⟨x8, c8, rfl⟩ := ownS hown8; have N8 := hide (N9.out.app ((Below.refl _ _).alloc (Nat.le_refl _) _) hgrow8 (by rw [HBFE.out]; exact Nat.le_refl _) hown8); have hs8 := N8.out.fd.lt; clear hown8 hgrow8 hnil8 hat8)
                go_roundw
                case rel => exact ⟨m - 1, by go_num, by omega, by omega, ⟨_, _, _, rfl⟩, _, _, _, by rw [SK.out]; exact N8.out, VS.out.later (by omega), HSS.out⟩
                case measure => simp [intOf]; omega
      · have HK : Hid (k0 = 1 + (z : Int)) := by show _ = _; rw [KF.out, if_neg HY.out]
        go_upto_region 11 with fail
        generalize hkk : 1 + (z : Int) = k1 at *
        have HKK := hide hkk
        clear hkk
        obtain rfl : k1 = k0 := HK.out.symm
        have hk3 := HKB.out
        have HKW : Hid (-40 ≤ Pk.kkF n k1 ∧ Pk.kkF n k1 ≤ 40 ∧ 0 ≤ n + Pk.kkF n k1) := by show _ ∧ _ ∧ _; unfold Pk.kkF; split <;> omega
        by_cases hneg : n + k1 < 0
        · have HKE : Hid (-n = Pk.kkF n k1) := by show _ = _; unfold Pk.kkF; rw [if_pos hneg]
          go_upto_region 13 with fail
          generalize hke : -n = kx at *
          obtain rfl : Pk.kkF n k1 = kx := HKE.out.symm
          have HKX := hide hke
          clear hke
          have PC := hide PB.out
          clear PB KF
          generalize Pk.kkF n k1 = kk at *
          have hkk4 : -40 ≤ kk ∧ kk ≤ 40 ∧ 0 ≤ n + kk := HKW.out
          by_cases h40 : 40 < al + kk
          · have SK : Hid (st2 = ⟨cs2, al, a6, l⟩) := by show _ = _; rw [PC.out, if_pos (.inl h40)]
            go_wp2
            go_roundw
            case rel => exact ⟨m - 1, by go_num, by omega, by omega, ⟨_, _, _, rfl⟩, _, _, _, by rw [SK.out]; exact M6.out, VS.out.later (by omega), HSS.out⟩
            case measure => simp [intOf]; omega
          · by_cases h00 : kk = 0
            · have SK : Hid (st2 = ⟨cs2, al, a6, l⟩) := by show _ = _; rw [PC.out, if_pos (.inr h00)]
              have h00' : (kk == 0) = true := by simp [h00]
              clear h00
              go_wp2
              go_roundw
              case rel => exact ⟨m - 1, by go_num, by omega, by omega, ⟨_, _, _, rfl⟩, _, _, _, by rw [SK.out]; exact M6.out, VS.out.later (by omega), HSS.out⟩
              case measure => simp [intOf]; omega
            · have SK : Hid (st2 = ⟨cs2.set j ((p, u, q), n + kk), al + kk, a6, l ++ [((p, u, q), kk)]⟩) := by show _ = _; rw [PC.out, if_neg (by intro h; rcases h with h | h; exact h40 h; exact h00 h)]
              have h00' : (kk == 0) = false := by simp [h00]
              clear h00
              go_upto_region 14 with fail
              go_cut [62] from 62 to 91 (fun q62 wy => PuW w wy bc B bf g5 c5 br j vr vn s cs2 al (al + kk) a6 l (p, u, q) (n + kk) (.slice xl nl cl) (.slice x4 n4 c4))
              case first =>
                go_region
                all_goals
                  go_wp2
                  go_meet
                  case rel => exact PuW.of (M6.out.drewM _) hat (HJR.out hat) D6.out _ _
              case rest =>
                have P9 := hide hcut
                clear hcut t1 t2 tn tf
                have t2 : wc.cell? ⟨bc, 2, none⟩ = some (.int .i64 al) := cell_of_heap P9.out.blk 2
                have tf := free_of_heap P9.out.blk 2
                go_upto_region 16 with fail
                have N9 := hide P9.out.nx
                have X9 : Hid ((wc.setCell ⟨bc, 2, none⟩ (.int .i64 (al + kk))).heap[br]? = some (.cells #[.int .i64 p, .int .i64 u, .int .i64 q] 48 (0, 0))) := (set_far _ _ _ _ _ P9.out.ne).trans P9.out.box
                clear t2 tf P9
                generalize wc.setCell ⟨bc, 2, none⟩ (.int .i64 (al + kk)) = w9 at *
                have d0 : w9.cell? ⟨br, 0, none⟩ = some (.int .i64 p) := cell_of_heap X9.out 0
                have d1 : w9.cell? ⟨br, 1, none⟩ = some (.int .i64 u) := cell_of_heap X9.out 1
                have d2 : w9.cell? ⟨br, 2, none⟩ = some (.int .i64 q) := cell_of_heap X9.out 2
                have hll : l.length ≤ 8 - m := HLL.out
                have hs9 := N9.out.fd.lt
                go_wp2_with (at_builtin; refine wpList_append_own_at _ rfl (.tmp 86) (.tmp 90) 40 rfl bf 50 i0 _ 4 32 Tryz.underlying40 hti hz0 hz1 hz2 rfl (by decide) _ l.length (rchgs l) rfl (N9.out.own.alloc _) _ 1 1 (rchg ((p, u, q), kk)) rfl rfl (World.news_of_block (heap_alloc_new _ _)) (by intro u hu; simp [rchg] at hu; rcases hu with rfl | rfl | rfl | rfl <;> rfl) (by unfold maxLen; omega) (by omega) (by simp; omega) ?_; intro v8 w8 hown8 hgrow8 hnil8 hat8; obtain ⟨x8, c8, rfl⟩ := ownS hown8; have N8 := hide (N9.out.app ((Below.refl _ _).alloc (Nat.le_refl _) _) hgrow8 (by rw [HBFE.out]; exact Nat.le_refl _) hown8); have hs8 := N8.out.fd.lt; clear hown8 hgrow8 hnil8 hat8)
                go_roundw
                case rel => exact ⟨m - 1, by go_num, by omega, by omega, ⟨_, _, _, rfl⟩, _, _, _, by rw [SK.out]; exact N8.out, VS.out.later (by omega), HSS.out⟩
                case measure => simp [intOf]; omega
        · have HKE : Hid (k1 = Pk.kkF n k1) := by show _ = _; unfold Pk.kkF; rw [if_neg hneg]
          go_upto_region 13 with fail
          have PC := hide PB.out
          clear PB KF
          generalize Pk.kkF n k1 = kk at *
          obtain rfl : kk = k1 := HKE.out.symm
          have hkk4 : -40 ≤ kk ∧ kk ≤ 40 ∧ 0 ≤ n + kk := HKW.out
          by_cases h40 : 40 < al + kk
          · have SK : Hid (st2 = ⟨cs2, al, a6, l⟩) := by show _ = _; rw [PC.out, if_pos (.inl h40)]
            go_wp2
            go_roundw
            case rel => exact ⟨m - 1, by go_num, by omega, by omega, ⟨_, _, _, rfl⟩, _, _, _, by rw [SK.out]; exact M6.out, VS.out.later (by omega), HSS.out⟩
            case measure => simp [intOf]; omega
          · by_cases h00 : kk = 0
            · have SK : Hid (st2 = ⟨cs2, al, a6, l⟩) := by show _ = _; rw [PC.out, if_pos (.inr h00)]
              have h00' : (kk == 0) = true := by simp [h00]
              clear h00
              go_wp2
              go_roundw
              case rel => exact ⟨m - 1, by go_num, by omega, by omega, ⟨_, _, _, rfl⟩, _, _, _, by rw [SK.out]; exact M6.out, VS.out.later (by omega), HSS.out⟩
              case measure => simp [intOf]; omega
            · have SK : Hid (st2 = ⟨cs2.set j ((p, u, q), n + kk), al + kk, a6, l ++ [((p, u, q), kk)]⟩) := by show _ = _; rw [PC.out, if_neg (by intro h; rcases h with h | h; exact h40 h; exact h00 h)]
              have h00' : (kk == 0) = false := by simp [h00]
              clear h00
              go_upto_region 14 with fail
              go_cut [62] from 62 to 91 (fun q62 wy => PuW w wy bc B bf g5 c5 br j vr vn s cs2 al (al + kk) a6 l (p, u, q) (n + kk) (.slice xl nl cl) (.slice x4 n4 c4))
              case first =>
                go_region
                all_goals
                  go_wp2
                  go_meet
                  case rel => exact PuW.of (M6.out.drewM _) hat (HJR.out hat) D6.out _ _
              case rest =>
                have P9 := hide hcut
                clear hcut t1 t2 tn tf
                have t2 : wc.cell? ⟨bc, 2, none⟩ = some (.int .i64 al) := cell_of_heap P9.out.blk 2
                have tf := free_of_heap P9.out.blk 2
                go_upto_region 16 with fail
                have N9 := hide P9.out.nx
                have X9 : Hid ((wc.setCell ⟨bc, 2, none⟩ (.int .i64 (al + kk))).heap[br]? = some (.cells #[.int .i64 p, .int .i64 u, .int .i64 q] 48 (0, 0))) := (set_far _ _ _ _ _ P9.out.ne).trans P9.out.box
                clear t2 tf P9
                generalize wc.setCell ⟨bc, 2, none⟩ (.int .i64 (al + kk)) = w9 at *
                have d0 : w9.cell? ⟨br, 0, none⟩ = some (.int .i64 p) := cell_of_heap X9.out 0
                have d1 : w9.cell? ⟨br, 1, none⟩ = some (.int .i64 u) := cell_of_heap X9.out 1
                have d2 : w9.cell? ⟨br, 2, none⟩ = some (.int .i64 q) := cell_of_heap X9.out 2
                have hll : l.length ≤ 8 - m := HLL.out
                have hs9 := N9.out.fd.lt
                go_wp2_with (at_builtin; refine wpList_append_own_at _ rfl (.tmp 86) (.tmp 90) 40 rfl bf 50 i0 _ 4 32 Tryz.underlying40 hti hz0 hz1 hz2 rfl (by decide) _ l.length (rchgs l) rfl (N9.out.own.alloc _) _ 1 1 (rchg ((p, u, q), kk)) rfl rfl (World.news_of_block (heap_alloc_new _ _)) (by intro u hu; simp [rchg] at hu; rcases hu with rfl | rfl | rfl | rfl <;> rfl) (by unfold maxLen; omega) (by omega) (by simp; omega) ?_; intro v8 w8 hown8 hgrow8 hnil8 hat8; obtain ⟨x8, c8, rfl⟩ := ownS hown8; have N8 := hide (N9.out.app ((Below.refl _ _).alloc (Nat.le_refl _) _) hgrow8 (by rw [HBFE.out]; exact Nat.le_refl _) hown8); have hs8 := N8.out.fd.lt; clear hown8 hgrow8 hnil8 hat8)
                go_roundw
                case rel => exact ⟨m - 1, by go_num, by omega, by omega, ⟨_, _, _, rfl⟩, _, _, _, by rw [SK.out]; exact N8.out, VS.out.later (by omega), HSS.out⟩
                case measure => simp [intOf]; omega
    · have hm' : ¬ (0 : Int) < (m : Int) := by omega
      obtain rfl : m = 0 := by omega
      obtain ⟨st, vr1, vn1, hbm, hinv, hst⟩ := HL.out
      have hst' : st = Pk.batchF s.data.toList cs all := hst
      subst hst'
      have M1 := hide hbm
      clear hbm hinv hst HL HB1
      go_wp2
      go_ret
      exact ⟨M1.out.but, xl, nl, cl, vr1, vn1, rfl, by rw [HBFE.out]; exact M1.out.own, M1.out.cm, M1.out.o1, M1.out.o2⟩
theorem batch_any {w : World} {bc B : Nat} {vr vn : Value} {cs : List Pv.Chg} {all : Int} (h : CM w bc B vr vn cs all) (hi : Pk.CInv cs all) (hB : B ≤ w.heap.size) {s : ByteArray} (hs : s.size ≤ maxLen) :
    Calls Tryz.prog 24 #[.pointer (some ⟨bc, 0, none⟩), .string s] w fun e w' => BatchPost w bc B vr vn cs all s e w' := dbatch_any h hi.d hB hs
end Go.Proofs.YtcoofnhdbejnpaaGreatDoor

