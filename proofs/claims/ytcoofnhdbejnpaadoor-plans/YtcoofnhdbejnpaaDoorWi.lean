/- Package panesref: Check. -/
import Derived.Test.YtcoofnhdbejnpaaDoorWh
import Derived.Test.YtcoofnhdbejnpaaDoorPlainB
import Derived.BigRegion
namespace Go.Proofs.YtcoofnhdbejnpaaDoor
open Go.RowKit
theorem CW.start0 (w : World) : CW w ((w.alloc (.cells #[.slice none 0 0, .slice none 0 0, .slice none 0 0, .int .i64 0, .int .i64 0] 69)).alloc (.cells #[.slice none 0 0, .slice none 0 0, .slice none 0 0, .int .i64 0, .int .i64 0] 69)) (.slice none 0 0) (.slice none 0 0) (.slice none 0 0) 0 0 := by
  refine ⟨alloc_at (by simp), ?_, ((Below.refl _ _).alloc (Nat.le_refl _) _).alloc (by simp) _⟩
  rw [(((Below.refl (w.heap.size + 1) (w.alloc (.cells #[.slice none 0 0, .slice none 0 0, .slice none 0 0, .int .i64 0, .int .i64 0] 69))).alloc (by simp) _)).block _ (by omega)]
  exact alloc_at rfl
/-- the world of Check behind the cut: the answer's block, none's, the query's -/
structure QW (w wr : World) (b : Nat) (vb vk vf : Value) (tp fr : Int) : Prop where
  c : CW w wr (.slice none 0 0) (.slice none 0 0) (.slice none 0 0) 0 0
  q : wr.heap[b]? = some (.cells #[vb, vk, vf, .int .i64 tp, .int .i64 fr] 69 (0, 0))
  hb : w.heap.size + 2 ≤ b
theorem QW.below {w wr w' : World} {b : Nat} {vb vk vf : Value} {tp fr : Int} (h : QW w wr b vb vk vf tp fr) (hb : Below wr.heap.size wr w') : QW w w' b vb vk vf tp fr :=
  ⟨h.c.below hb, by rw [hb.block _ (Array.getElem?_eq_some_iff.1 h.q).1]; exact h.q, h.hb⟩
theorem QW.cells {w wr : World} {b : Nat} {vb vk vf : Value} {tp fr : Int} (h : QW w wr b vb vk vf tp fr) : wr.cell? ⟨b, 0, none⟩ = some vb ∧ wr.cell? ⟨b, 1, none⟩ = some vk ∧ wr.cell? ⟨b, 2, none⟩ = some vf ∧ wr.cell? ⟨b, 3, none⟩ = some (.int .i64 tp) ∧ wr.cell? ⟨b, 4, none⟩ = some (.int .i64 fr) := ⟨cell_of_heap h.q 0, cell_of_heap h.q 1, cell_of_heap h.q 2, cell_of_heap h.q 3, cell_of_heap h.q 4⟩
theorem SegsRd.below {w w' : World} {vals : List Value} {segs : List (List Pq.Tok)} (h : SegsRd w vals segs) (hb : Below w.heap.size w w') : SegsRd w' vals segs := ⟨h.1, fun j h1 h2 => (h.2 j h1 h2).below hb⟩
/-- behind a store into a block of queries -/
theorem RdT.far {w w' : World} {v : Value} {ts : List Pq.Tok} (h : RdT w v ts) {r : Nat} {cs : Array Value} (hr : w.heap[r]? = some (.cells cs 69 (0, 0))) (hf : ∀ k, k ≠ r → w'.heap[k]? = w.heap[k]?) : RdT w' v ts := by
  rcases h with h | ⟨g, off, cap, cur, h1, h2, h3, h4⟩
  · exact .inl h
  · refine .inr ⟨g, off, cap, cur, h1, h2, ?_, h4⟩
    rw [hf g (by rintro rfl; rw [hr] at h3; cases h3)]
    exact h3
theorem SegsRd.far {w w' : World} {vals : List Value} {segs : List (List Pq.Tok)} (h : SegsRd w vals segs) {r : Nat} {cs : Array Value} (hr : w.heap[r]? = some (.cells cs 69 (0, 0))) (hf : ∀ k, k ≠ r → w'.heap[k]? = w.heap[k]?) : SegsRd w' vals segs := ⟨h.1, fun j h1 h2 => (h.2 j h1 h2).far hr hf⟩
theorem funs_len {fs : List Pq.Fn} {segs : List (List Pq.Tok)} {l : List Pq.Tok} (h : Pr.FunsSeg fs segs l) : segs.length ≤ l.length := by
  induction fs, segs, l, h using Pr.FunsSeg_ind with
  | one f l hf => have := Pr.fn_pos hf; simp; omega
  | more f l y fs segs m hf hy h ih => simp only [List.length_cons, List.length_append]; omega
theorem RdT.form1 {w : World} {v : Value} {ts : List Pq.Tok} (h : RdT w v ts) (h0 : 0 < ts.length) : ∃ g off c, v = .slice (some ⟨g, off, none⟩) ts.length c := by
  rcases h with ⟨_, h⟩ | ⟨g, off, cap, cur, h, _⟩
  · rw [h] at h0; simp at h0
  · exact ⟨_, _, _, h⟩
theorem RdT.ne {w : World} {g off n cap r : Nat} {ts : List Pq.Tok} {cs : Array Value} (h : RdT w (.slice (some ⟨g, off, none⟩) n cap) ts) (hr : w.heap[r]? = some (.cells cs 69 (0, 0))) : g ≠ r := by
  rcases h with ⟨h, _⟩ | ⟨g', off', cap', cur, h, _, hg, _⟩
  · cases h
  · cases h
    rintro rfl
    rw [hr] at hg; cases hg
theorem res5 {w wr : World} (hres : wr.heap[w.heap.size]? = some (.cells #[.slice none 0 0, .slice none 0 0, .slice none 0 0, .int .i64 0, .int .i64 0] 69 (0, 0))) (hbel : Below w.heap.size w wr) (x0 x1 x2 x3 x4 : Value) {w' : World} (hw : w' = ((((wr.setCell ⟨w.heap.size, 0, none⟩ x0).setCell ⟨w.heap.size, 1, none⟩ x1).setCell ⟨w.heap.size, 2, none⟩ x2).setCell ⟨w.heap.size, 3, none⟩ x3).setCell ⟨w.heap.size, 4, none⟩ x4) :
    w'.heap[w.heap.size]? = some (.cells #[x0, x1, x2, x3, x4] 69 (0, 0)) ∧ Below w.heap.size w w' ∧ ∀ k, k ≠ w.heap.size → w'.heap[k]? = wr.heap[k]? := by
  subst hw
  refine ⟨?_, ?_, fun k hk => ?_⟩
  · simp [World.setCell, Array.getElem?_modify, hres]
  · exact ((((hbel.setCell (p := ⟨w.heap.size, 0, none⟩) (by simp) _).setCell (p := ⟨w.heap.size, 1, none⟩) (by simp) _).setCell (p := ⟨w.heap.size, 2, none⟩) (by simp) _).setCell (p := ⟨w.heap.size, 3, none⟩) (by simp) _).setCell (p := ⟨w.heap.size, 4, none⟩) (by simp) _
  · rw [set_far _ _ _ _ k hk, set_far _ _ _ _ k hk, set_far _ _ _ _ k hk, set_far _ _ _ _ k hk, set_far _ _ _ _ k hk]
theorem err_arg {P : Pr.Parts} (h4 : ¬ 4 < P.segs.length) (h5 : P.twice = -1) {a : Int} (ha : Pr.argF P.segs = a) (hn : a ≠ -1) : Pr.errE P = 6 ∧ Pr.errP P = a := by
  simp [Pr.errE, Pr.errP, h4, h5, ha, hn]
/-- what Check answers -/
def CheckPost (l : Pq.Bytes) (w : World) (e : Ending) (w' : World) : Prop :=
  Below w.heap.size w w' ∧
  ((Pq.readE l ≠ 0 ∧ e = .returned (.tuple #[.agg #[.slice none 0 0, .slice none 0 0, .slice none 0 0, .int .i64 0, .int .i64 0], .slice none 0 0, .int .i64 (Pq.readE l), .int .i64 (Pq.readP l)])) ∨
   (Pq.readE l = 0 ∧ ∃ (P : Pr.Parts) (v vb vk vf : Value) (vals : List Value), Pr.PartsOk (Pq.toksOf l) P ∧ Pq.endPS l = ⟨(Pq.toksOf l).length, false, P.cs, P.ks, P.fs, P.hasTop, P.top, P.frm, Pr.manyF P.segs, P.twice, Pr.argF P.segs⟩ ∧
     e = .returned (.tuple #[.agg #[vb, vk, vf, .int .i64 P.topV, .int .i64 P.frm], v, .int .i64 0, .int .i64 0]) ∧ RdT w' v (Pq.toksOf l) ∧ RdT w' vb P.bl ∧ RdT w' vk P.kl ∧ w'.ownsRow w.heap.size 66 1 vf P.segs.length vals ∧ SegsRd w' vals P.segs))
set_option maxRecDepth 100000 in
set_option maxHeartbeats 2000000 in
theorem check_any (s : ByteArray) (w : World) (hs : s.size ≤ maxLen) :
    Calls Tryd.prog 21 #[.string s] w fun e w' => CheckPost s.data.toList w e w' := by
  go_enter Tryd.func21, Tryd.ntmps21
  go_upto_region 2 with fail
  have C0 := hide (CW.start0 w)
  generalize ((w.alloc (.cells #[.slice none 0 0, .slice none 0 0, .slice none 0 0, .int .i64 0, .int .i64 0] 69)).alloc (.cells #[.slice none 0 0, .slice none 0 0, .slice none 0 0, .int .i64 0, .int .i64 0] 69)) = w0 at *
  go_wp2_with fail
  refine (rread_any s w0 hs).mono ?_
  rintro e w1 ⟨b1, hr⟩
  have C1 := hide (C0.out.below b1)
  have B1 := hide b1
  clear b1
  unfold RReadPost at hr
  by_cases hlong : 300 < s.data.toList.length
  · rw [if_pos hlong] at hr
    subst hr
    have HE := hide (Pq.readE_long hlong)
    clear hlong
    obtain ⟨q0, q1, q2, q3, q4⟩ := C1.out.cells
    obtain ⟨r0, r1, r2, r3, r4⟩ := C1.out.rcells
    have f0 := C1.out.rfrozen 0; have f1 := C1.out.rfrozen 1; have f2 := C1.out.rfrozen 2; have f3 := C1.out.rfrozen 3; have f4 := C1.out.rfrozen 4
    go_wp2
    obtain ⟨D1, D2, D3⟩ := C1.out.done rfl
    generalize ((((w1.setCell ⟨w.heap.size, 0, none⟩ (.slice none 0 0)).setCell ⟨w.heap.size, 1, none⟩ (.slice none 0 0)).setCell ⟨w.heap.size, 2, none⟩ (.slice none 0 0)).setCell ⟨w.heap.size, 3, none⟩ (.int .i64 0)).setCell ⟨w.heap.size, 4, none⟩ (.int .i64 0) = w9 at *
    have l0 := cell_of_heap D1 0; have l1 := cell_of_heap D1 1; have l2 := cell_of_heap D1 2; have l3 := cell_of_heap D1 3; have l4 := cell_of_heap D1 4
    refine bodyPost_ret (v := .tuple #[.agg #[.slice none 0 0, .slice none 0 0, .slice none 0 0, .int .i64 0, .int .i64 0], .slice none 0 0, .int .i64 1, .int .i64 0]) (by simp [results, Tryd.results21, go_sem, l0, l1, l2, l3, l4]) rfl ⟨D2, .inl ⟨?_, ?_⟩⟩
    · rw [HE.out.1]; decide
    · rw [HE.out.1, HE.out.2]
  · rw [if_neg hlong] at hr
    by_cases hlex : (Pq.lexFrom s.data.toList 0).2 = -1
    · rw [if_pos hlex] at hr
      by_cases hbad : Pr.bad (Pq.toksOf s.data.toList) = true
      · rw [if_pos hbad] at hr
        subst hr
        have HE := hide (Pr.read_bad hlong hlex hbad)
        clear hlong hlex hbad
        generalize Pr.pAt (Pq.toksOf s.data.toList) s.data.toList.length (Pr.run (Pq.toksOf s.data.toList) Pr.start 0).2 = pl at *
        obtain ⟨q0, q1, q2, q3, q4⟩ := C1.out.cells
        obtain ⟨r0, r1, r2, r3, r4⟩ := C1.out.rcells
        have f0 := C1.out.rfrozen 0; have f1 := C1.out.rfrozen 1; have f2 := C1.out.rfrozen 2; have f3 := C1.out.rfrozen 3; have f4 := C1.out.rfrozen 4
        go_wp2
        obtain ⟨D1, D2, D3⟩ := C1.out.done rfl
        generalize ((((w1.setCell ⟨w.heap.size, 0, none⟩ (.slice none 0 0)).setCell ⟨w.heap.size, 1, none⟩ (.slice none 0 0)).setCell ⟨w.heap.size, 2, none⟩ (.slice none 0 0)).setCell ⟨w.heap.size, 3, none⟩ (.int .i64 0)).setCell ⟨w.heap.size, 4, none⟩ (.int .i64 0) = w9 at *
        have l0 := cell_of_heap D1 0; have l1 := cell_of_heap D1 1; have l2 := cell_of_heap D1 2; have l3 := cell_of_heap D1 3; have l4 := cell_of_heap D1 4
        refine bodyPost_ret (v := .tuple #[.agg #[.slice none 0 0, .slice none 0 0, .slice none 0 0, .int .i64 0, .int .i64 0], .slice none 0 0, .int .i64 3, .int .i64 (pl : Nat)]) (by simp [results, Tryd.results21, go_sem, l0, l1, l2, l3, l4]) rfl ⟨D2, .inl ⟨?_, ?_⟩⟩
        · rw [HE.out.1]; decide
        · rw [HE.out.1, HE.out.2]
      · rw [if_neg hbad] at hr
        obtain ⟨v, rfl, hown⟩ := hr
        obtain ⟨P, hP, e1, e2, e3⟩ := Pr.read_good hlong hlex (by simpa using hbad)
        have HP := hide hP
        have HE := hide (And.intro e1 (And.intro e2 e3))
        have HLONG := hide hlong
        clear e1 e2 e3 hlong hlex hbad hP
        have hl : (Pq.toksOf s.data.toList).length ≤ 1000 := by
          have := Pq.lexFrom_len s.data.toList 0
          have h3 := HLONG.out
          unfold Pq.toksOf; omega
        have R1 := hide (RdT.ofOwn hown)
        clear hown
        generalize htk : Pq.toksOf s.data.toList = toks at *
        have HTK := hide htk
        clear htk
        obtain ⟨av, nv, cv, rfl⟩ := R1.out.form
        go_wp2_with fail
        refine (cut_any toks P HP.out _ R1.out hl).mono ?_
        rintro e w2 ⟨b2, vb, vk, vf, vals, rfl, rb, rk, own2, sr⟩
        have hsn : P.segs.length ≠ 0 := by
          have := Pr.funs_split HP.out.funs
          intro h
          exact Pr.splitF_ne 0 [] P.fl (this.trans (List.eq_nil_of_length_eq_zero h))
        obtain ⟨gf, capf, rfl⟩ : ∃ gf capf, vf = .slice (some ⟨gf, 0, none⟩) P.segs.length capf := by
          rcases own_form own2 with ⟨_, h⟩ | h
          · exact absurd h hsn
          · exact h
        obtain ⟨ab, nb, cb, rfl⟩ := rb.form
        obtain ⟨ak, nk, ck, rfl⟩ := rk.form
        go_upto_region 6 with fail
        have B3 : Below w1.heap.size w1 (w2.alloc (.cells #[.slice ab nb cb, .slice ak nk ck, .slice (some ⟨gf, 0, none⟩) P.segs.length capf, .int .i64 P.topV, .int .i64 P.frm] 69)) := b2.alloc b2.size _
        have Q3 : Hid (QW w (w2.alloc (.cells #[.slice ab nb cb, .slice ak nk ck, .slice (some ⟨gf, 0, none⟩) P.segs.length capf, .int .i64 P.topV, .int .i64 P.frm] 69)) w2.heap.size (.slice ab nb cb) (.slice ak nk ck) (.slice (some ⟨gf, 0, none⟩) P.segs.length capf) P.topV P.frm) :=
          ⟨C1.out.below B3, alloc_at rfl, by have := (Array.getElem?_eq_some_iff.1 C1.out.blk).1; have := b2.size; omega⟩
        have O3 := hide (own2.alloc (.cells #[.slice ab nb cb, .slice ak nk ck, .slice (some ⟨gf, 0, none⟩) P.segs.length capf, .int .i64 P.topV, .int .i64 P.frm] 69))
        have R3 := hide (R1.out.below B3)
        have RB := hide (rb.below B3)
        have RK := hide (rk.below B3)
        have SR := hide (sr.below B3)
        have hB1 : Hid (w.heap.size ≤ w1.heap.size) := C1.out.bel.size
        clear B3 b2 own2 rb rk sr R1 B1 C0
        generalize w2.heap.size = b at *
        generalize w2.alloc (.cells #[.slice ab nb cb, .slice ak nk ck, .slice (some ⟨gf, 0, none⟩) P.segs.length capf, .int .i64 P.topV, .int .i64 P.frm] 69) = w3 at *
        have hsl : P.segs.length ≤ 1000 := by
          have h1 := funs_len HP.out.funs
          have h2 := HP.out.sizes
          have := h2.t; have := h2.len
          omega
        have hbl : P.bl.length ≤ 1000 := by have h2 := HP.out.sizes; have := h2.o; have := h2.s; have := h2.t; have := h2.len; omega
        have hkl : P.kl.length ≤ 1000 := by have h2 := HP.out.sizes; have := h2.s; have := h2.t; have := h2.len; omega
        have hvl : vals.length = P.segs.length := SR.out.1
        obtain ⟨m0, m1, m2, m3, m4⟩ := Q3.out.cells
        by_cases h4 : 4 < P.segs.length
        · have HSG := hide (Pr.seg_ne HP.out.funs 4 h4)
          obtain ⟨g4, o4, c4, e4⟩ := (SR.out.2 4 (by omega) h4).form1 (by obtain ⟨x, r, e⟩ := HSG.out; rw [e]; simp)
          have h0 : 0 < P.segs[4].length := by obtain ⟨x, r, e⟩ := HSG.out; rw [e]; simp
          have k4 : w3.cell? ⟨gf, 4, none⟩ = some (.slice (some ⟨g4, o4, none⟩) P.segs[4].length c4) := own_cells O3.out 4 _ (by rw [List.getElem?_eq_getElem (by omega), e4])
          have hcl := SR.out.2 4 (by omega) h4
          rw [e4] at hcl
          obtain ⟨t0, t1⟩ := hcl.cell 0 h0
          simp only [Nat.zero_mul, Nat.add_zero] at t0 t1
          have HM : Hid (Pr.errE P = 4 ∧ Pr.errP P = (P.segs[4][0].at' : Int)) := by
            show _ ∧ _
            unfold Pr.errE Pr.errP
            rw [if_pos h4, if_pos h4]
            refine ⟨rfl, ?_⟩
            unfold Pr.manyF
            rw [List.getElem?_eq_getElem h4]
            obtain ⟨x, r, e⟩ := HSG.out
            simp only [e, Pr.headAt, List.getElem_cons_zero]
          have h4' : (4 : Int) < (P.segs.length : Int) := by omega
          have h0' : (0 : Int) < (P.segs[4].length : Int) := by omega
          obtain ⟨q0, q1, q2, q3, q4⟩ := Q3.out.c.cells
          obtain ⟨r0, r1, r2, r3, r4⟩ := Q3.out.c.rcells
          have f0 := Q3.out.c.rfrozen 0; have f1 := Q3.out.c.rfrozen 1; have f2 := Q3.out.c.rfrozen 2; have f3 := Q3.out.c.rfrozen 3; have f4 := Q3.out.c.rfrozen 4
          have hn4 : g4 ≠ w.heap.size := hcl.ne Q3.out.c.res
          have hnf : gf ≠ w.heap.size := by
            have : w1.heap.size ≤ gf := (own_block O3.out rfl).elim fun _ hx => hx.2
            have h2 := (Array.getElem?_eq_some_iff.1 C1.out.res).1
            omega
          have hnb : b ≠ w.heap.size := by have := Q3.out.hb; omega
          have D := (Q3.out.c.done rfl).2.2
          have y1 := (World.cell?_of_block (a := ⟨g4, o4 + 1, none⟩) (D g4 hn4)).trans t1
          have y2 := (World.cell?_of_block (a := ⟨gf, 4, none⟩) (D gf hnf)).trans k4
          have y3 := (World.cell?_of_block (a := ⟨b, 2, none⟩) (D b hnb)).trans m2
          clear D hcl
          go_wp2
          go_region
          all_goals
            go_wp2
            obtain ⟨D1, D2, D3⟩ := Q3.out.c.done rfl
            generalize ((((w3.setCell ⟨w.heap.size, 0, none⟩ (.slice none 0 0)).setCell ⟨w.heap.size, 1, none⟩ (.slice none 0 0)).setCell ⟨w.heap.size, 2, none⟩ (.slice none 0 0)).setCell ⟨w.heap.size, 3, none⟩ (.int .i64 0)).setCell ⟨w.heap.size, 4, none⟩ (.int .i64 0) = w9 at *
            have l0 := cell_of_heap D1 0; have l1 := cell_of_heap D1 1; have l2 := cell_of_heap D1 2; have l3 := cell_of_heap D1 3; have l4 := cell_of_heap D1 4
            refine bodyPost_ret (v := .tuple #[.agg #[.slice none 0 0, .slice none 0 0, .slice none 0 0, .int .i64 0, .int .i64 0], .slice none 0 0, .int .i64 4, .int .i64 (P.segs[4][0].at' : Nat)]) (by simp [results, Tryd.results21, go_sem, l0, l1, l2, l3, l4]) rfl ⟨below_drewN D2 1, .inl ⟨?_, ?_⟩⟩
            · rw [HE.out.1, HM.out.1]; decide
            · rw [HE.out.1, HE.out.2.1, HM.out.1, HM.out.2]

        · have h4' : ¬ (4 : Int) < (P.segs.length : Int) := by omega
          have H4 := hide h4
          clear h4
          go_wp2_with fail
          refine (twice_any P.bl _ RB.out hbl).mono ?_
          rintro e w4 ⟨rfl, b4⟩
          have HTW : Hid (P.twice = if Pr.twF [] P.bl = -1 then Pr.twF [] P.kl else Pr.twF [] P.bl) := hide rfl
          have htw := Pr.twF_nn [] P.bl
          have htk := Pr.twF_nn [] P.kl
          have Q4 := hide (Q3.out.below b4)
          have RK4 := hide (RK.out.below b4)
          have B4 := hide b4
          clear b4 m0 m1 m2 m3 m4
          obtain ⟨m0, m1, m2, m3, m4⟩ := Q4.out.cells
          generalize Pr.twF [] P.bl = ta at *
          go_upto_if 42 with fail
          go_cut [9] from 13 to 80 (fun v wx => v = .int .i64 P.twice ∧ Below w3.heap.size w3 wx)
          case first =>
            by_cases hn : ta < 0
            · have hta : ta = -1 := by omega
              have HT2 : Hid (P.twice = Pr.twF [] P.kl) := by show _ = _; rw [HTW.out, if_pos hta]
              clear hta
              go_wp2_with fail
              refine (twice_any P.kl _ RK4.out hkl).mono ?_
              rintro e w5 ⟨rfl, b5⟩
              go_wp2
              go_meet
              case rel => exact ⟨by rw [HT2.out], B4.out.trans (b5.mono B4.out.size)⟩
            · have HT2 : Hid (P.twice = ta) := by show _ = _; rw [HTW.out, if_neg (by omega)]
              go_wp2
              go_meet
              case rel => exact ⟨by rw [HT2.out], B4.out⟩
          case rest =>
            obtain ⟨rfl, b5⟩ := hcut
            have Q5 := hide (Q3.out.below b5)
            have O5 := hide (own_below O3.out b5)
            have SR5 := hide (SR.out.below b5)
            have R5 := hide (R3.out.below b5)
            have RB5 := hide (RB.out.below b5)
            have RK5 := hide (RK.out.below b5)
            have HTN : Hid (P.twice = -1 ∨ 0 ≤ P.twice) := by
              show _ ∨ _
              rw [HTW.out]
              split
              · exact htk
              · exact htw
            clear b5 B4 Q4 RK4 Q3 O3 SR R3 RB RK htw htk HTW m0 m1 m2 m3 m4
            by_cases h5 : P.twice = -1
            · have h5' : P.twice < 0 := by omega
              have H5 := hide h5
              clear h5
              go_wp2
              go_loopw [11] (fun i wr => ∃ k : Nat, k ≤ P.segs.length ∧ i = .int .i64 k ∧ Below wc.heap.size wc wr ∧ Hid (Pr.argF (P.segs.drop k) = Pr.argF P.segs)) (fun i _ => P.segs.length - (intOf i).toNat)
              case atStart => exact ⟨0, by omega, rfl, Below.refl _ _, rfl⟩
              case round =>
                obtain ⟨k, hk, rfl, b6, HAR⟩ := hrel
                have Q6 := hide (Q5.out.below b6)
                obtain ⟨m0, m1, m2, m3, m4⟩ := Q6.out.cells
                by_cases hlt : k < P.segs.length
                · have hvk : k < vals.length := by omega
                  have hpos : 0 < P.segs[k].length := by obtain ⟨x, r, e⟩ := Pr.seg_ne HP.out.funs k hlt; rw [e]; simp
                  have hsg := (SR5.out.below b6).2 k hvk hlt
                  obtain ⟨gk, ok, ck', ek⟩ := hsg.form1 hpos
                  rw [ek] at hsg
                  have kk : wr.cell? ⟨gf, k, none⟩ = some (.slice (some ⟨gk, ok, none⟩) P.segs[k].length ck') := own_cells (own_below O5.out b6) k _ (by rw [List.getElem?_eq_getElem hvk, ek])
                  obtain ⟨t0, t1⟩ := hsg.cell 0 hpos
                  simp only [Nat.zero_mul, Nat.add_zero] at t0 t1
                  have HSG := hide hsg
                  have HDR := hide (Pr.argF_drop P.segs k hlt)
                  clear hsg ek
                  cases htl : (P.segs[k][0].text == [116, 105, 108, 101])
                  · have HT0 : Hid (Pr.tile0 P.segs[k] = -1) := Pr.tile_not hpos (fun q => by rw [q] at htl; exact absurd htl (by decide))
                    go_wp2
                    go_roundw
                    case rel =>
                      refine ⟨k + 1, by omega, by go_num, b6, ?_⟩
                      have e := HDR.out
                      rw [HT0.out, if_pos rfl] at e
                      exact e.symm.trans HAR.out
                    case measure => simp [intOf]; omega
                  · have hfs := Pr.funs_seg HP.out.funs
                    obtain ⟨h2, NT, HT⟩ := Pr.tile_seg (hfs.2 k hlt (by rw [← hfs.1]; exact hlt)) hpos (eq_of_beq htl)
                    clear hfs
                    obtain ⟨s0, s1⟩ := HSG.out.cell 2 h2
                    have HT0 := hide HT
                    have h2' : (2 : Int) < (P.segs[k].length : Int) := by omega
                    clear HT
                    go_wp2_with fail
                    refine (number_any P.segs[k][2] NT).mono ?_
                    rintro e w7 ⟨rfl, b7⟩
                    by_cases hz : Pq.worth P.segs[k][2].text = 0
                    · have HZ : Hid (Pr.tile0 P.segs[k] = (P.segs[k][2].at' : Int)) := by show _ = _; rw [HT0.out, if_pos hz]
                      have HE6 : Hid (Pr.errE P = 6 ∧ Pr.errP P = (P.segs[k][2].at' : Int)) := by
                        show _ ∧ _
                        have e := HDR.out
                        rw [HZ.out, if_neg (by omega)] at e
                        have e2 := HAR.out.symm.trans e
                        exact err_arg H4.out H5.out e2 (by omega)
                      have hzb : (Pq.worth P.segs[k][2].text == 0) = true := by simp [hz]
                      have Q7 := hide (Q6.out.below b7)
                      have HSG7 := hide (HSG.out.below b7)
                      obtain ⟨x0, x1⟩ := HSG7.out.cell 2 h2
                      have hn4 : gk ≠ w.heap.size := HSG7.out.ne Q7.out.c.res
                      have D := (Q7.out.c.done rfl).2.2
                      have y1 := (World.cell?_of_block (a := ⟨gk, ok + 2 * 2 + 1, none⟩) (D gk hn4)).trans x1
                      clear D hz b7 HSG HSG7 m0 m1 m2 m3 m4
                      obtain ⟨q0, q1, q2, q3, q4⟩ := Q7.out.c.cells
                      obtain ⟨r0, r1, r2, r3, r4⟩ := Q7.out.c.rcells
                      have f0 := Q7.out.c.rfrozen 0; have f1 := Q7.out.c.rfrozen 1; have f2 := Q7.out.c.rfrozen 2; have f3 := Q7.out.c.rfrozen 3; have f4 := Q7.out.c.rfrozen 4
                      go_wp2
                      go_region
                      all_goals
                        go_wp2
                        obtain ⟨D1, D2, D3⟩ := Q7.out.c.done rfl
                        generalize ((((w7.setCell ⟨w.heap.size, 0, none⟩ (.slice none 0 0)).setCell ⟨w.heap.size, 1, none⟩ (.slice none 0 0)).setCell ⟨w.heap.size, 2, none⟩ (.slice none 0 0)).setCell ⟨w.heap.size, 3, none⟩ (.int .i64 0)).setCell ⟨w.heap.size, 4, none⟩ (.int .i64 0) = w9 at *
                        have l0 := cell_of_heap D1 0; have l1 := cell_of_heap D1 1; have l2 := cell_of_heap D1 2; have l3 := cell_of_heap D1 3; have l4 := cell_of_heap D1 4
                        refine bodyPost_ret (v := .tuple #[.agg #[.slice none 0 0, .slice none 0 0, .slice none 0 0, .int .i64 0, .int .i64 0], .slice none 0 0, .int .i64 6, .int .i64 (P.segs[k][2].at' : Nat)]) (by simp [results, Tryd.results21, go_sem, l0, l1, l2, l3, l4]) rfl ⟨below_drewN D2 1, .inl ⟨?_, ?_⟩⟩
                        · rw [HE.out.1, HE6.out.1]; decide
                        · rw [HE.out.1, HE.out.2.1, HE6.out.1, HE6.out.2]
                    · have HZ : Hid (Pr.tile0 P.segs[k] = -1) := by show _ = _; rw [HT0.out, if_neg hz]
                      have hzb : (Pq.worth P.segs[k][2].text == 0) = false := by simp [hz]
                      go_wp2
                      go_roundw
                      case rel =>
                        refine ⟨k + 1, by omega, by go_num, b6.trans (b7.mono b6.size), ?_⟩
                        have e := HDR.out
                        rw [HZ.out, if_pos rfl] at e
                        exact e.symm.trans HAR.out
                      case measure => simp [intOf]; omega
                · have HA0 : Hid (Pr.argF P.segs = -1) := by
                    show _ = _
                    have e := HAR.out
                    rw [List.drop_eq_nil_of_le (by omega)] at e
                    exact e.symm
                  have HE0 : Hid (Pr.errE P = 0) := by
                    show _ = _
                    unfold Pr.errE
                    rw [if_neg H4.out, H5.out, HA0.out]; rfl
                  obtain ⟨r0, r1, r2, r3, r4⟩ := Q6.out.c.rcells
                  have f0 := Q6.out.c.rfrozen 0; have f1 := Q6.out.c.rfrozen 1; have f2 := Q6.out.c.rfrozen 2; have f3 := Q6.out.c.rfrozen 3; have f4 := Q6.out.c.rfrozen 4
                  have hkn : ¬ (k : Int) < (P.segs.length : Int) := by omega
                  go_wp2
                  obtain ⟨D1, D2, D3⟩ := res5 Q6.out.c.res Q6.out.c.bel (.slice ab nb cb) (.slice ak nk ck) (.slice (some ⟨gf, 0, none⟩) P.segs.length capf) (.int .i64 P.topV) (.int .i64 P.frm) rfl
                  generalize ((((wr.setCell ⟨w.heap.size, 0, none⟩ (.slice ab nb cb)).setCell ⟨w.heap.size, 1, none⟩ (.slice ak nk ck)).setCell ⟨w.heap.size, 2, none⟩ (.slice (some ⟨gf, 0, none⟩) P.segs.length capf)).setCell ⟨w.heap.size, 3, none⟩ (.int .i64 P.topV)).setCell ⟨w.heap.size, 4, none⟩ (.int .i64 P.frm) = w9 at *
                  have l0 := cell_of_heap D1 0; have l1 := cell_of_heap D1 1; have l2 := cell_of_heap D1 2; have l3 := cell_of_heap D1 3; have l4 := cell_of_heap D1 4
                  refine bodyPost_ret (v := .tuple #[.agg #[.slice ab nb cb, .slice ak nk ck, .slice (some ⟨gf, 0, none⟩) P.segs.length capf, .int .i64 P.topV, .int .i64 P.frm], .slice av nv cv, .int .i64 0, .int .i64 0]) (by simp [results, Tryd.results21, go_sem, l0, l1, l2, l3, l4]) rfl ⟨D2, .inr ⟨HE.out.1.trans HE0.out, P, .slice av nv cv, .slice ab nb cb, .slice ak nk ck, .slice (some ⟨gf, 0, none⟩) P.segs.length capf, vals, ?_⟩⟩
                  rw [HTK.out]
                  exact ⟨HP.out, HE.out.2.2, rfl, (R5.out.below b6).far Q6.out.c.res D3, (RB5.out.below b6).far Q6.out.c.res D3, (RK5.out.below b6).far Q6.out.c.res D3, own_base (own_far (own_below O5.out b6) (Array.getElem?_eq_some_iff.1 C1.out.res).1 D3) hB1.out, (SR5.out.below b6).far Q6.out.c.res D3⟩
            · have h5' : 0 ≤ P.twice := by have := HTN.out; omega
              have HE5 : Hid (Pr.errE P = 5 ∧ Pr.errP P = P.twice) := by
                show _ ∧ _
                unfold Pr.errE Pr.errP
                rw [if_neg H4.out, if_neg H4.out, if_pos h5, if_pos h5]
                exact ⟨rfl, rfl⟩
              clear h5
              obtain ⟨q0, q1, q2, q3, q4⟩ := Q5.out.c.cells
              obtain ⟨r0, r1, r2, r3, r4⟩ := Q5.out.c.rcells
              have f0 := Q5.out.c.rfrozen 0; have f1 := Q5.out.c.rfrozen 1; have f2 := Q5.out.c.rfrozen 2; have f3 := Q5.out.c.rfrozen 3; have f4 := Q5.out.c.rfrozen 4
              go_wp2
              obtain ⟨D1, D2, D3⟩ := Q5.out.c.done rfl
              generalize ((((wc.setCell ⟨w.heap.size, 0, none⟩ (.slice none 0 0)).setCell ⟨w.heap.size, 1, none⟩ (.slice none 0 0)).setCell ⟨w.heap.size, 2, none⟩ (.slice none 0 0)).setCell ⟨w.heap.size, 3, none⟩ (.int .i64 0)).setCell ⟨w.heap.size, 4, none⟩ (.int .i64 0) = w9 at *
              have l0 := cell_of_heap D1 0; have l1 := cell_of_heap D1 1; have l2 := cell_of_heap D1 2; have l3 := cell_of_heap D1 3; have l4 := cell_of_heap D1 4
              refine bodyPost_ret (v := .tuple #[.agg #[.slice none 0 0, .slice none 0 0, .slice none 0 0, .int .i64 0, .int .i64 0], .slice none 0 0, .int .i64 5, .int .i64 P.twice]) (by simp [results, Tryd.results21, go_sem, l0, l1, l2, l3, l4]) rfl ⟨D2, .inl ⟨?_, ?_⟩⟩
              · rw [HE.out.1, HE5.out.1]; decide
              · rw [HE.out.1, HE.out.2.1, HE5.out.1, HE5.out.2]
    · rw [if_neg hlex] at hr
      subst hr
      have HE := hide (Pq.readE_bad hlong hlex)
      clear hlong hlex
      generalize (Pq.lexFrom s.data.toList 0).2 = pl at *
      obtain ⟨q0, q1, q2, q3, q4⟩ := C1.out.cells
      obtain ⟨r0, r1, r2, r3, r4⟩ := C1.out.rcells
      have f0 := C1.out.rfrozen 0; have f1 := C1.out.rfrozen 1; have f2 := C1.out.rfrozen 2; have f3 := C1.out.rfrozen 3; have f4 := C1.out.rfrozen 4
      go_wp2
      obtain ⟨D1, D2, D3⟩ := C1.out.done rfl
      generalize ((((w1.setCell ⟨w.heap.size, 0, none⟩ (.slice none 0 0)).setCell ⟨w.heap.size, 1, none⟩ (.slice none 0 0)).setCell ⟨w.heap.size, 2, none⟩ (.slice none 0 0)).setCell ⟨w.heap.size, 3, none⟩ (.int .i64 0)).setCell ⟨w.heap.size, 4, none⟩ (.int .i64 0) = w9 at *
      have l0 := cell_of_heap D1 0; have l1 := cell_of_heap D1 1; have l2 := cell_of_heap D1 2; have l3 := cell_of_heap D1 3; have l4 := cell_of_heap D1 4
      refine bodyPost_ret (v := .tuple #[.agg #[.slice none 0 0, .slice none 0 0, .slice none 0 0, .int .i64 0, .int .i64 0], .slice none 0 0, .int .i64 2, .int .i64 pl]) (by simp [results, Tryd.results21, go_sem, l0, l1, l2, l3, l4]) rfl ⟨D2, .inl ⟨?_, ?_⟩⟩
      · rw [HE.out.1]; decide
      · rw [HE.out.1, HE.out.2]
end Go.Proofs.YtcoofnhdbejnpaaDoor
