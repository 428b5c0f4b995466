/- Package panesref: cut. -/
import Derived.Test.YtcoofnhdbejnpaaDoorWg
import Derived.Test.YtcoofnhdbejnpaaDoorVi
namespace Go.Proofs.YtcoofnhdbejnpaaDoor
open Go.RowKit
/-- the two blocks of cut: the answer's, and the query's -/
structure CW (w wr : World) (vb vk vf : Value) (tp fr : Int) : Prop where
  blk : wr.heap[w.heap.size + 1]? = some (.cells #[vb, vk, vf, .int .i64 tp, .int .i64 fr] 69 (0, 0))
  res : wr.heap[w.heap.size]? = some (.cells #[.slice none 0 0, .slice none 0 0, .slice none 0 0, .int .i64 0, .int .i64 0] 69 (0, 0))
  bel : Below w.heap.size w wr
theorem CW.start (w : World) : CW w ((w.alloc (.cells #[.slice none 0 0, .slice none 0 0, .slice none 0 0, .int .i64 0, .int .i64 0] 69)).alloc (.cells #[.slice none 0 0, .slice none 0 0, .slice none 0 0, .int .i64 (-1), .int .i64 0] 69)) (.slice none 0 0) (.slice none 0 0) (.slice none 0 0) (-1) 0 := by
  refine ⟨alloc_at (by simp), ?_, ((Below.refl _ _).alloc (Nat.le_refl _) _).alloc (by simp) _⟩
  rw [(((Below.refl (w.heap.size + 1) (w.alloc (.cells #[.slice none 0 0, .slice none 0 0, .slice none 0 0, .int .i64 0, .int .i64 0] 69))).alloc (by simp) _)).block _ (by omega)]
  exact alloc_at rfl
theorem CW.below {w wr w' : World} {vb vk vf : Value} {tp fr : Int} (h : CW w wr vb vk vf tp fr) (hb : Below wr.heap.size wr w') : CW w w' vb vk vf tp fr := by
  have h1 := (Array.getElem?_eq_some_iff.1 h.blk).1
  have h2 := (Array.getElem?_eq_some_iff.1 h.res).1
  exact ⟨by rw [hb.block _ h1]; exact h.blk, by rw [hb.block _ h2]; exact h.res, h.bel.trans (hb.mono h.bel.size)⟩
theorem CW.frozen {w wr : World} {vb vk vf : Value} {tp fr : Int} (h : CW w wr vb vk vf tp fr) (j : Nat) : wr.frozen? ⟨w.heap.size + 1, j, none⟩ = false := free_of_heap h.blk j
theorem CW.cell {w wr : World} {vb vk vf : Value} {tp fr : Int} (h : CW w wr vb vk vf tp fr) (j : Nat) : wr.cell? ⟨w.heap.size + 1, j, none⟩ = (#[vb, vk, vf, .int .i64 tp, .int .i64 fr] : Array Value)[j]? := cell_of_heap h.blk j
theorem CW.cells {w wr : World} {vb vk vf : Value} {tp fr : Int} (h : CW w wr vb vk vf tp fr) : wr.cell? ⟨w.heap.size + 1, 0, none⟩ = some vb ∧ wr.cell? ⟨w.heap.size + 1, 1, none⟩ = some vk ∧ wr.cell? ⟨w.heap.size + 1, 2, none⟩ = some vf ∧ wr.cell? ⟨w.heap.size + 1, 3, none⟩ = some (.int .i64 tp) ∧ wr.cell? ⟨w.heap.size + 1, 4, none⟩ = some (.int .i64 fr) := ⟨h.cell 0, h.cell 1, h.cell 2, h.cell 3, h.cell 4⟩
theorem CW.rcells {w wr : World} {vb vk vf : Value} {tp fr : Int} (h : CW w wr vb vk vf tp fr) : wr.cell? ⟨w.heap.size, 0, none⟩ = some (.slice none 0 0) ∧ wr.cell? ⟨w.heap.size, 1, none⟩ = some (.slice none 0 0) ∧ wr.cell? ⟨w.heap.size, 2, none⟩ = some (.slice none 0 0) ∧ wr.cell? ⟨w.heap.size, 3, none⟩ = some (.int .i64 0) ∧ wr.cell? ⟨w.heap.size, 4, none⟩ = some (.int .i64 0) := ⟨cell_of_heap h.res 0, cell_of_heap h.res 1, cell_of_heap h.res 2, cell_of_heap h.res 3, cell_of_heap h.res 4⟩
theorem CW.rfrozen {w wr : World} {vb vk vf : Value} {tp fr : Int} (h : CW w wr vb vk vf tp fr) (j : Nat) : wr.frozen? ⟨w.heap.size, j, none⟩ = false := free_of_heap h.res j
theorem CW.set {w wr : World} {vb vk vf : Value} {tp fr : Int} (h : CW w wr vb vk vf tp fr) (j : Nat) (v : Value) {vb' vk' vf' : Value} {tp' fr' : Int} (hc : (#[vb, vk, vf, .int .i64 tp, .int .i64 fr] : Array Value).setIfInBounds j v = #[vb', vk', vf', .int .i64 tp', .int .i64 fr']) : CW w (wr.setCell ⟨w.heap.size + 1, j, none⟩ v) vb' vk' vf' tp' fr' := by
  refine ⟨?_, ?_, h.bel.setCell (p := ⟨w.heap.size + 1, j, none⟩) (by simp) v⟩
  · simp [World.setCell, Array.getElem?_modify, h.blk, hc]
  · rw [Below.heap_setCell _ _ _ _ (by simp)]; exact h.res
theorem CW.drewN {w wr : World} {vb vk vf : Value} {tp fr : Int} (h : CW w wr vb vk vf tp fr) (n : Nat) : CW w (wr.drewN n) vb vk vf tp fr := ⟨h.blk, h.res, below_drewN h.bel n⟩
theorem RdT.sub {w : World} {g off n cap : Nat} {ts : List Pq.Tok} (h : RdT w (.slice (some ⟨g, off, none⟩) n cap) ts) {a b : Nat} (hab : a ≤ b) (hb : b ≤ ts.length) : RdT w (.slice (some ⟨g, off + a * 2, none⟩) (b - a) (cap - a)) ((ts.take b).drop a) := by
  rcases h with ⟨h, _⟩ | ⟨g', off', cap', cur, h, hl, hg, hc⟩
  · cases h
  · cases h
    have hlen : ((ts.take b).drop a).length = b - a := by rw [List.length_drop, List.length_take]; omega
    refine .inr ⟨g, off + a * 2, cap - a, cur, by rw [hlen], by omega, hg, fun j u hu => ?_⟩
    have hj : j < (b - a) * 2 := by
      rcases Nat.lt_or_ge j ((b - a) * 2) with h | h
      · exact h
      · rw [List.getElem?_eq_none (by rw [rtoks_len, hlen]; exact h)] at hu; cases hu
    have e1 : rtoks ts = rtoks (ts.take a) ++ (rtoks ((ts.take b).drop a) ++ rtoks (ts.drop b)) := by
      have e : ts = ts.take a ++ ((ts.take b).drop a ++ ts.drop b) := by
        rw [List.drop_take, ← List.append_assoc]
        have : ts.take a ++ (ts.drop a).take (b - a) = ts.take b := by
          rw [← List.take_add]; congr 1; omega
        rw [this, List.take_append_drop]
      conv => lhs; rw [e]
      simp [rtoks]
    have e2 : (rtoks ts)[a * 2 + j]? = some u := by
      have hla : (rtoks (ts.take a)).length = a * 2 := by rw [rtoks_len, List.length_take]; congr 1; omega
      rw [e1, List.getElem?_append_right (by omega), hla, List.getElem?_append_left (by rw [rtoks_len, hlen]; omega), ← hu]
      congr 1; omega
    rw [← hc _ _ e2]; congr 1; omega
theorem RdT.form {w : World} {v : Value} {ts : List Pq.Tok} (h : RdT w v ts) : ∃ ad n c, v = .slice ad n c := by
  rcases h with ⟨h, _⟩ | ⟨g, off, cap, cur, h, _⟩
  · exact ⟨_, _, _, h⟩
  · exact ⟨_, _, _, h⟩
theorem own_sl {w : World} {B e size n : Nat} {v : Value} {xs : List Value} (h : w.ownsRow B e size v n xs) : ∃ ad n c, v = .slice ad n c := by
  rcases h.2 with ⟨h1, _⟩ | ⟨g, cap, cur, h1, _⟩
  · exact ⟨_, _, _, h1⟩
  · exact ⟨_, _, _, h1⟩
def SegsRd (w : World) (vals : List Value) (segs : List (List Pq.Tok)) : Prop := vals.length = segs.length ∧ ∀ j (h1 : j < vals.length) (h2 : j < segs.length), RdT w vals[j] segs[j]
theorem SegsRd.snoc {w : World} {vals : List Value} {segs : List (List Pq.Tok)} (h : SegsRd w vals segs) {v : Value} {l : List Pq.Tok} (hv : RdT w v l) : SegsRd w (vals ++ [v]) (segs ++ [l]) := by
  refine ⟨by simp [h.1], fun j h1 h2 => ?_⟩
  by_cases hj : j < vals.length
  · rw [List.getElem_append_left hj, List.getElem_append_left (by rw [← h.1]; exact hj)]; exact h.2 j hj _
  · have e : j = vals.length := by simp at h1; omega
    have e1 : (vals ++ [v])[j] = v := by
      have : (vals ++ [v])[j]? = some v := by rw [List.getElem?_append_right (by omega)]; simp [e]
      rw [List.getElem?_eq_getElem h1] at this; exact Option.some.inj this
    have e2 : (segs ++ [l])[j] = l := by
      have hs : vals.length = segs.length := h.1
      have : (segs ++ [l])[j]? = some l := by rw [List.getElem?_append_right (by omega)]; simp [e, hs]
      rw [List.getElem?_eq_getElem h2] at this; exact Option.some.inj this
    rw [e1, e2]; exact hv
theorem own_far {w w' : World} {B e size n r : Nat} {v : Value} {xs : List Value} (h : w.ownsRow B e size v n xs) (hr : r < B) (hf : ∀ k, k ≠ r → w'.heap[k]? = w.heap[k]?) : w'.ownsRow B e size v n xs := by
  refine ⟨h.1, ?_⟩
  rcases h.2 with h1 | ⟨g, cap, cur, h1, h2, h3, h4⟩
  · exact .inl h1
  · exact .inr ⟨g, cap, cur, h1, h2, by rw [hf g (by omega)]; exact h3, h4⟩
theorem own_base {w : World} {B B' e size n : Nat} {v : Value} {xs : List Value} (h : w.ownsRow B e size v n xs) (hB : B' ≤ B) : w.ownsRow B' e size v n xs := by
  refine ⟨h.1, ?_⟩
  rcases h.2 with h1 | ⟨g, cap, cur, h1, h2, h3, h4⟩
  · exact .inl h1
  · exact .inr ⟨g, cap, cur, h1, by omega, h3, h4⟩
theorem set_far (w : World) (r j : Nat) (v : Value) (k : Nat) (h : k ≠ r) : (w.setCell ⟨r, j, none⟩ v).heap[k]? = w.heap[k]? := Below.heap_setCell _ _ _ _ h
theorem CW.push {w wr : World} {vb vk vf vf' : Value} {tp fr : Int} {n : Nat} {vals vals' : List Value} {o : Obj} {w6 : World} (h : CW w wr vb vk vf tp fr) (hown : wr.ownsRow (w.heap.size + 2) 66 1 vf n vals) (hg : (wr.alloc o).drew.grownBy w6 vf.ownBlock) (hown6 : w6.ownsRow (w.heap.size + 2) 66 1 vf' (n + 1) vals') :
    CW w w6 vb vk vf tp fr ∧ CW w (w6.setCell ⟨w.heap.size + 1, 2, none⟩ vf') vb vk vf' tp fr ∧ (w6.setCell ⟨w.heap.size + 1, 2, none⟩ vf').ownsRow (w.heap.size + 2) 66 1 vf' (n + 1) vals' := by
  have h1 := (Array.getElem?_eq_some_iff.1 h.blk).1
  have h2 := (Array.getElem?_eq_some_iff.1 h.res).1
  have hc : CW w (wr.alloc o).drew vb vk vf tp fr := (h.below ((Below.refl _ _).alloc (Nat.le_refl _) o)).drewN 1
  have hrow : ∀ k, vf.ownBlock = some k → w.heap.size + 2 ≤ k := by
    intro k hk
    rcases hown.2 with ⟨e, _⟩ | ⟨g, cap, cur, e, hb, _⟩
    · rw [e] at hk; cases hk
    · rw [e] at hk; cases hk; exact hb
  have hsz : wr.heap.size < (wr.alloc o).drew.heap.size := by simp
  have c6 : CW w w6 vb vk vf tp fr := by
    refine ⟨?_, ?_, ?_⟩
    · rw [hg.block _ (by omega) (fun e => by have := hrow _ e.symm; omega)]; exact hc.blk
    · rw [hg.block _ (by omega) (fun e => by have := hrow _ e.symm; omega)]; exact hc.res
    · exact hc.bel.grown hg (by have := hc.bel.size; omega) (fun k hk => by have := hrow k hk; omega)
  exact ⟨c6, c6.set 2 vf' rfl, own_far hown6 (by omega) (fun k hk => set_far _ _ _ _ k hk)⟩
theorem CW.done {w wr : World} {vb vk vf : Value} {tp fr : Int} (h : CW w wr vb vk vf tp fr) {w' : World} (hw : w' = ((((wr.setCell ⟨w.heap.size, 0, none⟩ vb).setCell ⟨w.heap.size, 1, none⟩ vk).setCell ⟨w.heap.size, 2, none⟩ vf).setCell ⟨w.heap.size, 3, none⟩ (.int .i64 tp)).setCell ⟨w.heap.size, 4, none⟩ (.int .i64 fr)) :
    w'.heap[w.heap.size]? = some (.cells #[vb, vk, vf, .int .i64 tp, .int .i64 fr] 69 (0, 0)) ∧ Below w.heap.size w w' ∧ ∀ k, k ≠ w.heap.size → w'.heap[k]? = wr.heap[k]? := by
  subst hw
  refine ⟨?_, ?_, fun k hk => ?_⟩
  · simp [World.setCell, Array.getElem?_modify, h.res]
  · exact ((((h.bel.setCell (p := ⟨w.heap.size, 0, none⟩) (by simp) _).setCell (p := ⟨w.heap.size, 1, none⟩) (by simp) _).setCell (p := ⟨w.heap.size, 2, none⟩) (by simp) _).setCell (p := ⟨w.heap.size, 3, none⟩) (by simp) _).setCell (p := ⟨w.heap.size, 4, none⟩) (by simp) _
  · rw [set_far _ _ _ _ k hk, set_far _ _ _ _ k hk, set_far _ _ _ _ k hk, set_far _ _ _ _ k hk, set_far _ _ _ _ k hk]
theorem splitF_commaN {x : Pq.Tok} (h : x.text = Pq.wComma) {o : Int} (ho : o ≠ 0) (cur r : List Pq.Tok) : Pr.splitF o cur (x :: r) = Pr.splitF o (cur ++ [x]) r := by
  simp [Pr.splitF, Pr.opens, h, Pq.wOpen, Pq.wClose, Pq.wComma, ho]
theorem infoTks : (Tryd.prog.info? 66).map (fun i => (i.zero, i.size, i.bytes)) = some (some (.slice none 0 0), 1, 24) := by kernel_rfl
theorem find_nO {w : World} {toks : List Pq.Tok} {P : Pr.Parts} (hP : Pr.PartsOk toks P) {v : Value} (h : RdT w v toks) (hl : toks.length ≤ 1000) :
    Calls Tryd.prog 22 #[v, .string ⟨#[111, 114, 100, 101, 114]⟩] w fun e w' => e = .returned (.int .i64 (P.nO : Nat)) ∧ w = w' := by
  have := find_any Pq.wOrder toks v h hl; rw [show toks.findIdx (fun x => x.text == Pq.wOrder) = P.nO from hP.order] at this; exact this
theorem find_nS {w : World} {toks : List Pq.Tok} {P : Pr.Parts} (hP : Pr.PartsOk toks P) {v : Value} (h : RdT w v toks) (hl : toks.length ≤ 1000) :
    Calls Tryd.prog 22 #[v, .string ⟨#[115, 104, 111, 119]⟩] w fun e w' => e = .returned (.int .i64 (P.nS : Nat)) ∧ w = w' := by
  have := find_any Pq.wShow toks v h hl; rw [show toks.findIdx (fun x => x.text == Pq.wShow) = P.nS from hP.show'] at this; exact this
theorem find_nT {w : World} {toks : List Pq.Tok} {P : Pr.Parts} (hP : Pr.PartsOk toks P) {v : Value} (h : RdT w v toks) (hl : toks.length ≤ 1000) :
    Calls Tryd.prog 22 #[v, .string ⟨#[116, 111, 112]⟩] w fun e w' => e = .returned (.int .i64 (P.nT : Nat)) ∧ w = w' := by
  have := find_any Pq.wTop toks v h hl; rw [show toks.findIdx (fun x => x.text == Pq.wTop) = P.nT from hP.top'] at this; exact this
def nF (toks : List Pq.Tok) (P : Pr.Parts) : Nat := if P.tl.length ≤ 2 then toks.length else P.nT + 2
theorem find_nF {w : World} {toks : List Pq.Tok} {P : Pr.Parts} (hP : Pr.PartsOk toks P) {v : Value} (h : RdT w v toks) (hl : toks.length ≤ 1000) :
    Calls Tryd.prog 22 #[v, .string ⟨#[102, 114, 111, 109]⟩] w fun e w' => e = .returned (.int .i64 (nF toks P : Nat)) ∧ w = w' := by
  have := find_any Pq.wFrom toks v h hl; rw [show toks.findIdx (fun x => x.text == Pq.wFrom) = nF toks P from hP.from'] at this; exact this
set_option maxRecDepth 100000 in
set_option maxHeartbeats 2000000 in
theorem cut_any {w : World} (toks : List Pq.Tok) (P : Pr.Parts) (hP : Pr.PartsOk toks P) (v : Value) (h : RdT w v toks) (hl : toks.length ≤ 1000) :
    Calls Tryd.prog 34 #[v] w fun e w' => Below w.heap.size w w' ∧ ∃ vb vk vf vals, e = .returned (.agg #[vb, vk, vf, .int .i64 P.topV, .int .i64 P.frm]) ∧ RdT w vb P.bl ∧ RdT w vk P.kl ∧ w'.ownsRow w.heap.size 66 1 vf P.segs.length vals ∧ SegsRd w vals P.segs := by
  have HR := hide h
  have HP := hide hP
  have S := hP.sizes
  have HSZ := hide S
  have hB : P.nO + 1 < P.nS ∧ P.nS + 1 < P.nT ∧ P.nT ≤ toks.length := by
    have s1 := S.o; have s2 := S.s; have s3 := S.t; have s4 := S.len; have s5 := S.kl; have s6 := S.fl
    omega
  obtain ⟨b1, b2, b3⟩ := hB
  have HBY := hide (hP.first (by omega))
  clear hP S
  obtain ⟨i0, hi, hz0, hz1, hz2⟩ := info_parts infoTks
  rcases h with ⟨rfl, rfl⟩ | ⟨g, off, cap, cur, rfl, hlc, hg, hc⟩
  · simp at b3; omega
  · have hgl := (Array.getElem?_eq_some_iff.1 hg).1
    clear hc
    go_enter Tryd.func34, Tryd.ntmps34
    go_upto_region 2 with fail
    have C0 := hide (CW.start w)
    generalize ((w.alloc (.cells #[.slice none 0 0, .slice none 0 0, .slice none 0 0, .int .i64 0, .int .i64 0] 69)).alloc (.cells #[.slice none 0 0, .slice none 0 0, .slice none 0 0, .int .i64 (-1), .int .i64 0] 69)) = w0 at *
    have R0 := hide (HR.out.below C0.out.bel)
    obtain ⟨c0, c1⟩ := R0.out.cell 0 (by omega)
    simp only [Nat.zero_mul, Nat.add_zero] at c0 c1
    go_wp2_with fail
    refine (find_nO HP.out R0.out hl).mono ?_
    rintro e w' ⟨rfl, rfl⟩
    go_wp2_with fail
    refine (find_nS HP.out R0.out hl).mono ?_
    rintro e w' ⟨rfl, rfl⟩
    go_wp2_with fail
    refine (find_nT HP.out R0.out hl).mono ?_
    rintro e w' ⟨rfl, rfl⟩
    go_wp2_with fail
    refine (find_nF HP.out R0.out hl).mono ?_
    rintro e w' ⟨rfl, rfl⟩
    go_upto_if 25 with fail
    go_cut [] from 12 to 117 (fun wx => ∃ vb, CW w wx vb (.slice none 0 0) (.slice none 0 0) (-1) 0 ∧ RdT w vb P.bl)
    case first =>
      have q0 := C0.out.cell 0
      have q0 : w0.cell? ⟨w.heap.size + 1, 0, none⟩ = some (.slice none 0 0) := q0
      have z0 := C0.out.frozen 0
      cases hby : (toks[0].text == [98, 121])
      · have HB0 : Hid (P.bl = []) := by
          show _ = _
          have e := HBY.out
          rcases HSZ.out.bh with ⟨_, h⟩ | ⟨h, _⟩
          · exact h
          · rw [h] at e; exact absurd (hby.symm.trans e) (by decide)
        go_wp2
        go_meet
        case rel => exact ⟨_, C0.out, .inl ⟨rfl, HB0.out⟩⟩
      · have HB0 : Hid (P.bh.length = 1 ∧ 0 < P.bl.length) := by
          show _ ∧ _
          have e := HBY.out
          rcases HSZ.out.bh with ⟨h, _⟩ | h
          · rw [h] at e; exact absurd (hby.symm.trans e) (by decide)
          · exact h
        have hn1 : 1 < P.nO := by have := HSZ.out.o; have := HB0.out; omega
        go_wp2
        go_meet
        case rel =>
          refine ⟨_, C0.out.set 0 _ rfl, ?_⟩
          have := HR.out.sub (a := 1) (b := P.nO) (by omega) (by omega)
          rw [HP.out.byL HB0.out.1] at this
          exact this
    case rest =>
      obtain ⟨vb, c1, rb⟩ := hcut
      have C1 := hide c1
      have RB := hide rb
      clear c1 rb C0 HBY R0
      have q1 := C1.out.cell 1
      have q1 : wc.cell? ⟨w.heap.size + 1, 1, none⟩ = some (.slice none 0 0) := q1
      have z1 := C1.out.frozen 1
      go_upto_if 39 with fail
      have C2 := hide (C1.out.set 1 (.slice (some ⟨g, off + (P.nO + 1) * 2, none⟩) (P.nS - (P.nO + 1)) (cap - (P.nO + 1))) rfl)
      have RK : Hid (RdT w (.slice (some ⟨g, off + (P.nO + 1) * 2, none⟩) (P.nS - (P.nO + 1)) (cap - (P.nO + 1))) P.kl) := by
        have := HR.out.sub (a := P.nO + 1) (b := P.nS) (by omega) (by omega)
        rw [HP.out.keysL] at this
        exact this
      clear C1 q1 z1
      generalize wc.setCell ⟨w.heap.size + 1, 1, none⟩ (.slice (some ⟨g, off + (P.nO + 1) * 2, none⟩) (P.nS - (P.nO + 1)) (cap - (P.nO + 1))) = w2 at *
      generalize Value.slice (some ⟨g, off + (P.nO + 1) * 2, none⟩) (P.nS - (P.nO + 1)) (cap - (P.nO + 1)) = vk at *
      go_cut [] from 12 to 117 (fun wx => CW w wx vb vk (.slice none 0 0) P.topV 0)
      case first =>
        by_cases h0 : P.nT < toks.length
        · have htl : Hid (P.tl.length ≠ 0) := by show _ ≠ _; have := HSZ.out.len; omega
          have h1 : P.nT + 1 < toks.length := by have := HSZ.out.len; have := HSZ.out.tl; have := htl.out; omega
          have HN := hide (HP.out.topTok htl.out h1)
          obtain ⟨t0, t1⟩ := (HR.out.below C2.out.bel).cell (P.nT + 1) h1
          go_wp2_with fail
          refine (number_any toks[P.nT + 1] HN.out.1).mono ?_
          rintro e w3 ⟨rfl, b4⟩
          have C3 := hide (C2.out.below b4)
          have q3 := C3.out.cell 3
          have q3 : w3.cell? ⟨w.heap.size + 1, 3, none⟩ = some (.int .i64 (-1)) := q3
          have z3 := C3.out.frozen 3
          clear b4
          go_wp2
          go_meet
          case rel =>
            have := C3.out.set 3 (.int .i64 (Pq.worth toks[P.nT + 1].text)) rfl
            rw [HN.out.2] at this ⊢
            unfold Pr.Parts.topV
            rw [if_neg htl.out]
            exact this
        · have htl : Hid (P.tl.length = 0) := by show _ = _; have := HSZ.out.len; omega
          go_wp2
          go_meet
          case rel =>
            unfold Pr.Parts.topV
            rw [if_pos htl.out]
            exact C2.out
      case rest =>
        have C3 := hide hcut
        clear hcut C2
        go_upto_if 50 with fail
        go_cut [] from 12 to 117 (fun wx => CW w wx vb vk (.slice none 0 0) P.topV P.frm)
        case first =>
          by_cases h0 : nF toks P < toks.length
          · have htl : Hid (2 < P.tl.length) := by
              show _ < _
              rcases Nat.lt_or_ge 2 P.tl.length with h | h
              · exact h
              · unfold nF at h0; rw [if_pos h] at h0; omega
            have hnf : nF toks P = P.nT + 2 := by unfold nF; rw [if_neg (by have := htl.out; omega)]
            have h1 : P.nT + 3 < toks.length := by have := HSZ.out.len; have := HSZ.out.tl; have := htl.out; omega
            have HN := hide (HP.out.frmTok htl.out h1)
            have h1' : nF toks P + 1 < toks.length := by omega
            have HN2 : Hid (Pr.NTok toks[nF toks P + 1] ∧ Pq.worth toks[nF toks P + 1].text = P.frm) := by
              show _ ∧ _
              have e : toks[nF toks P + 1] = toks[P.nT + 3] := by simp only [hnf]
              rw [e]; exact HN.out
            obtain ⟨t0, t1⟩ := (HR.out.below C3.out.bel).cell (nF toks P + 1) h1'
            clear hnf HN h1
            go_wp2_with fail
            refine (number_any toks[nF toks P + 1] HN2.out.1).mono ?_
            rintro e w3 ⟨rfl, b4⟩
            have C3' := hide (C3.out.below b4)
            have q4 := C3'.out.cell 4
            have q4 : w3.cell? ⟨w.heap.size + 1, 4, none⟩ = some (.int .i64 0) := q4
            have z4 := C3'.out.frozen 4
            clear b4
            go_wp2
            go_meet
            case rel =>
              have := C3'.out.set 4 (.int .i64 (Pq.worth toks[nF toks P + 1].text)) rfl
              rw [HN2.out.2] at this ⊢
              exact this
          · have htl : Hid (P.frm = 0) := by
              show _ = _
              refine (Pr.topSeg_frm HP.out.top).1 ?_
              rcases Nat.lt_or_ge 2 P.tl.length with h | h
              · exfalso; unfold nF at h0; rw [if_neg (by omega)] at h0; have := HSZ.out.len; omega
              · exact h
            go_wp2
            go_meet
            case rel =>
              rw [htl.out]
              exact C3.out
        case rest =>
          have C4 := hide hcut
          clear hcut C3
          have HSPL := hide (Pr.funs_split HP.out.funs)
          go_wp2
          go_loopw [8, 9, 10] (fun o a i wr => ∃ (on : Int) (an k : Nat) (vf : Value) (segs : List (List Pq.Tok)) (vals : List Value), o = .int .i64 on ∧ a = .int .i64 an ∧ i = .int .i64 k ∧ an ≤ k ∧ k ≤ P.nT + 1 ∧ -(k : Int) ≤ on ∧ on ≤ k ∧ segs.length ≤ k ∧ CW w wr vb vk vf P.topV P.frm ∧ wr.ownsRow (w.heap.size + 2) 66 1 vf segs.length vals ∧ Hid (SegsRd w vals segs) ∧ Hid ((k ≤ P.nT → P.segs = segs ++ Pr.splitF on ((toks.take k).drop an) ((toks.take P.nT).drop k)) ∧ (P.nT < k → P.segs = segs))) (fun _ _ i _ => P.nT + 1 - (intOf i).toNat)
          case atStart =>
            refine ⟨0, P.nS + 1, P.nS + 1, _, [], [], rfl, by go_num, by go_num, Nat.le_refl _, by omega, by omega, by omega, by simp, C4.out, ⟨rfl, .inl ⟨rfl, rfl⟩⟩, ⟨rfl, fun j h1 h2 => absurd h1 (by simp)⟩, fun _ => ?_, fun h => by omega⟩
            rw [HP.out.funsL, List.drop_eq_nil_of_le (by rw [List.length_take]; omega), List.nil_append, HSPL.out]
          case round =>
            obtain ⟨on, an, k, vf, segs, vals, rfl, rfl, rfl, hak, hk, ho1, ho2, hsl, cw, hown, HSR, HSP⟩ := hrel
            have CC := hide cw
            have OW := hide hown
            clear cw hown C4
            by_cases hle : k ≤ P.nT
            · by_cases hend : k = P.nT
              · have hE : ((k : Int) == (P.nT : Int)) = true := by simp [hend]
                have HLS : Hid (P.segs = segs ++ [(toks.take k).drop an]) := by
                  show _ = _
                  have e := HSP.out.1 hle
                  rw [show (toks.take P.nT).drop k = [] from List.drop_eq_nil_of_le (by rw [List.length_take]; omega)] at e
                  exact e
                have han : an < k := by
                  rcases Nat.lt_or_ge an k with h | h
                  · exact h
                  · exfalso
                    have e := HLS.out
                    have hm : (toks.take k).drop an ∈ P.segs := by rw [e]; simp
                    obtain ⟨j, hj, ej⟩ := List.getElem_of_mem hm
                    have hfs := Pr.funs_seg HP.out.funs
                    have hp := Pr.fn_pos (hfs.2 j hj (by rw [← hfs.1]; exact hj))
                    rw [ej, List.length_drop, List.length_take] at hp
                    omega
                have hkc : k ≤ toks.length := by omega
                have x1 : k ≤ cap := by omega
                have x3 : ¬ cap = an := by omega
                have HEND := hide hend
                clear hend
                have HSUB := hide (HR.out.sub (a := an) (b := k) (by omega) hkc)
                have q2 := CC.out.cells.2.2.1
                obtain ⟨af, nf, cf, rfl⟩ := own_sl OW.out
                have q2a := (CC.out.below ((Below.refl _ _).alloc (Nat.le_refl _) (.cells #[.slice (some ⟨g, off + an * 2, none⟩) (k - an) (cap - an)] 66))).cells.2.2.1
                go_wp2_with fail
                go_region_law (refine step_append_lies _ rfl (.tmp 107) (.tmp 112) 67 rfl (w.heap.size + 2) 66 i0 _ 1 24 Tryd.underlying67 hi hz0 hz1 hz2 rfl (by decide) _ segs.length vals rfl (OW.out.alloc _).drew _ 1 1 [.slice (some ⟨g, off + an * 2, none⟩) (k - an) (cap - an)] rfl rfl (World.news_of_block (heap_alloc_new _ _)) (by intro u hu; simp at hu; rcases hu with rfl; rfl) (by decide) (by unfold maxLen; omega) (by omega) (by have := (Array.getElem?_eq_some_iff.1 CC.out.blk).1; simp; omega) _ rfl ?_; intro g6 cap6 w6 hown6 hgrow6 hat6 hlt6; obtain ⟨c6, c7, o7⟩ := CC.out.push OW.out hgrow6 hown6; have y2 := c6.cells.2.2.1; have z2 := c6.frozen 2; have C7 := hide c7; have O7 := hide o7; clear c6 c7 o7 hown6 hgrow6 hat6 hlt6)
                all_goals
                  go_wp2
                  go_roundw
                  case rel =>
                    refine ⟨on, k + 1, k + 1, _, segs ++ [(toks.take k).drop an], vals ++ [.slice (some ⟨g, off + an * 2, none⟩) (k - an) (cap - an)], rfl, by go_num, by go_num, Nat.le_refl _, by omega, by omega, by omega, by simp; omega, C7.out, by simpa using O7.out, HSR.out.snoc HSUB.out, fun h => absurd h (by have := HEND.out; omega), fun _ => HLS.out⟩
                  case measure => simp [intOf]; omega
              · have hlt : k < P.nT := by omega
                have hkb : ((k : Int) == (P.nT : Int)) = false := by simp; omega
                have hkl : k < toks.length := by omega
                obtain ⟨t0, t1⟩ := (HR.out.below CC.out.bel).cell k hkl
                have HNX : Hid ((toks.take P.nT).drop k = toks[k] :: (toks.take P.nT).drop (k + 1) ∧ (toks.take (k + 1)).drop an = (toks.take k).drop an ++ [toks[k]]) := by
                  show _ ∧ _
                  constructor
                  · rw [List.drop_eq_getElem_cons (by rw [List.length_take]; omega), List.getElem_take]
                  · rw [List.take_succ_eq_append_getElem hkl, List.drop_append_of_le_length (by rw [List.length_take]; omega)]
                cases e1 : (toks[k].text == [40])
                · cases e2 : (toks[k].text == [41])
                  · cases e3 : (toks[k].text == [44])
                    · go_wp2
                      go_roundw
                      case rel =>
                        refine ⟨on, an, k + 1, vf, segs, vals, rfl, rfl, by go_num, by omega, by omega, by omega, by omega, by omega, CC.out, OW.out, HSR, fun _ => ?_, fun h => by omega⟩
                        have e := HSP.out.1 hle
                        rw [HNX.out.1, Pr.splitF_word ⟨e1, e2, e3⟩, ← HNX.out.2] at e
                        exact e
                      case measure => simp [intOf]; omega
                    · have ex : toks[k].text = [44] := by simpa using e3
                      have EX := hide ex
                      clear ex
                      by_cases hz : on = 0
                      · subst hz
                        have hkc : k ≤ toks.length := by omega
                        have x1 : k ≤ cap := by omega
                        have x3 : ¬ cap = an := by omega
                        have HSUB := hide (HR.out.sub (a := an) (b := k) (by omega) hkc)
                        have q2 := CC.out.cells.2.2.1
                        obtain ⟨af, nf, cf, rfl⟩ := own_sl OW.out
                        have q2a := (CC.out.below ((Below.refl _ _).alloc (Nat.le_refl _) (.cells #[.slice (some ⟨g, off + an * 2, none⟩) (k - an) (cap - an)] 66))).cells.2.2.1
                        go_wp2_with fail
                        go_region_law (refine step_append_lies _ rfl (.tmp 107) (.tmp 112) 67 rfl (w.heap.size + 2) 66 i0 _ 1 24 Tryd.underlying67 hi hz0 hz1 hz2 rfl (by decide) _ segs.length vals rfl (OW.out.alloc _).drew _ 1 1 [.slice (some ⟨g, off + an * 2, none⟩) (k - an) (cap - an)] rfl rfl (World.news_of_block (heap_alloc_new _ _)) (by intro u hu; simp at hu; rcases hu with rfl; rfl) (by decide) (by unfold maxLen; omega) (by omega) (by have := (Array.getElem?_eq_some_iff.1 CC.out.blk).1; simp; omega) _ rfl ?_; intro g6 cap6 w6 hown6 hgrow6 hat6 hlt6; obtain ⟨c6, c7, o7⟩ := CC.out.push OW.out hgrow6 hown6; have y2 := c6.cells.2.2.1; have z2 := c6.frozen 2; have C7 := hide c7; have O7 := hide o7; clear c6 c7 o7 hown6 hgrow6 hat6 hlt6)
                        all_goals
                          go_wp2
                          go_roundw
                          case rel =>
                            refine ⟨0, k + 1, k + 1, _, segs ++ [(toks.take k).drop an], vals ++ [.slice (some ⟨g, off + an * 2, none⟩) (k - an) (cap - an)], rfl, by go_num, by go_num, Nat.le_refl _, by omega, by omega, by omega, by simp; omega, C7.out, by simpa using O7.out, HSR.out.snoc HSUB.out, fun h => ?_, fun h => by omega⟩
                            have e := HSP.out.1 hle
                            rw [HNX.out.1, Pr.splitF_comma0 EX.out] at e
                            rw [show (toks.take (k + 1)).drop (k + 1) = [] from List.drop_eq_nil_of_le (by rw [List.length_take]; omega), e]
                            simp
                          case measure => simp [intOf]; omega
                      · have hzb : (on == 0) = false := by simp [hz]
                        go_wp2
                        go_roundw
                        case rel =>
                          refine ⟨on, an, k + 1, vf, segs, vals, rfl, rfl, by go_num, by omega, by omega, by omega, by omega, by omega, CC.out, OW.out, HSR, fun _ => ?_, fun h => by omega⟩
                          have e := HSP.out.1 hle
                          rw [HNX.out.1, splitF_commaN EX.out hz, ← HNX.out.2] at e
                          exact e
                        case measure => simp [intOf]; omega
                  · have ex : toks[k].text = [41] := by simpa using e2
                    have e3 : (toks[k].text == [44]) = false := by rw [ex]; rfl
                    have EX := hide ex
                    clear ex
                    go_wp2
                    go_roundw
                    case rel =>
                      refine ⟨on - 1, an, k + 1, vf, segs, vals, by go_num, rfl, by go_num, by omega, by omega, by omega, by omega, by omega, CC.out, OW.out, HSR, fun _ => ?_, fun h => by omega⟩
                      have e := HSP.out.1 hle
                      rw [HNX.out.1, Pr.splitF_close EX.out, ← HNX.out.2] at e
                      exact e
                    case measure => simp [intOf]; omega
                · have ex : toks[k].text = [40] := by simpa using e1
                  have e2 : (toks[k].text == [41]) = false := by rw [ex]; rfl
                  have e3 : (toks[k].text == [44]) = false := by rw [ex]; rfl
                  have EX := hide ex
                  clear ex
                  go_wp2
                  go_roundw
                  case rel =>
                    refine ⟨on + 1, an, k + 1, vf, segs, vals, by go_num, rfl, by go_num, by omega, by omega, by omega, by omega, by omega, CC.out, OW.out, HSR, fun _ => ?_, fun h => by omega⟩
                    have e := HSP.out.1 hle
                    rw [HNX.out.1, Pr.splitF_open EX.out, ← HNX.out.2] at e
                    exact e
                  case measure => simp [intOf]; omega
            · have hcond : decide ((k : Int) ≤ (P.nT : Int)) = false := by simp; omega
              obtain ⟨ab, nb, cb, rfl⟩ := RB.out.form
              obtain ⟨ak, nk, ck, rfl⟩ := RK.out.form
              obtain ⟨af, nf, cf, rfl⟩ := own_sl OW.out
              obtain ⟨q0, q1, q2, q3, q4⟩ := CC.out.cells
              obtain ⟨r0, r1, r2, r3, r4⟩ := CC.out.rcells
              have f0 := CC.out.rfrozen 0; have f1 := CC.out.rfrozen 1; have f2 := CC.out.rfrozen 2; have f3 := CC.out.rfrozen 3; have f4 := CC.out.rfrozen 4
              go_wp2
              obtain ⟨D1, D2, D3⟩ := CC.out.done rfl
              generalize ((((wr.setCell ⟨w.heap.size, 0, none⟩ (.slice ab nb cb)).setCell ⟨w.heap.size, 1, none⟩ (.slice ak nk ck)).setCell ⟨w.heap.size, 2, none⟩ (.slice af nf cf)).setCell ⟨w.heap.size, 3, none⟩ (.int .i64 P.topV)).setCell ⟨w.heap.size, 4, none⟩ (.int .i64 P.frm) = w9 at *
              have l0 := cell_of_heap D1 0; have l1 := cell_of_heap D1 1; have l2 := cell_of_heap D1 2; have l3 := cell_of_heap D1 3; have l4 := cell_of_heap D1 4
              refine bodyPost_ret (v := .agg #[.slice ab nb cb, .slice ak nk ck, .slice af nf cf, .int .i64 P.topV, .int .i64 P.frm]) (by simp [results, Tryd.results34, go_sem, l0, l1, l2, l3, l4]) rfl ⟨D2, _, _, _, vals, rfl, RB.out, RK.out, ?_, ?_⟩
              · rw [HSP.out.2 (by omega)]; exact own_base (own_far OW.out (by omega) D3) (by omega)
              · rw [HSP.out.2 (by omega)]; exact HSR.out
end Go.Proofs.YtcoofnhdbejnpaaDoor
