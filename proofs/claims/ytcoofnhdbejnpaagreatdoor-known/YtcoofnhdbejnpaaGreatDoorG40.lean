/- Package outs: Add, Take. -/
import Derived.Test.YtcoofnhdbejnpaaGreatDoorG39
namespace Go.Proofs.YtcoofnhdbejnpaaGreatDoor
open Go.RowKit
theorem undrewB {B : Nat} {w w3 : World} (b : Below B w.drew w3) : Below B w w3 := ⟨b.os, b.tape, b.output, b.size, b.block⟩
/-- the sums are these -/
def SumPost (w : World) (b B : Nat) (s : List Pv.Out) (e : Ending) (w' : World) : Prop :=
  e = .returned (.tuple #[]) ∧ Below B w w' ∧ ∃ v' P', w'.heap[b]? = some (.cells #[v'] 118 (0, 0)) ∧ OwnP w' B v' P' ∧ P'.map (·.1) = s
set_option maxRecDepth 100000 in
set_option maxHeartbeats 2000000 in
theorem oAdd_any {w : World} {b B d m : Nat} {v vl : Value} {P : List POut} {l : List Pv.Out} (hb : w.heap[b]? = some (.cells #[v] 118 (0, 0))) (hP : OwnP w B v P) (hBb : B ≤ b) (hBw : B ≤ w.heap.size) (hS : Pv.SumOk d m (P.map (·.1))) (hl : ∀ W, Below B w W → RdO W vl l) (hlo : ∀ o ∈ l, o.2.1.length = d ∧ o.2.2 = 1) (hd : d ≤ 1000) (hm : m + l.length ≤ 1000000) :
    Calls Tryz.prog 49 #[.pointer (some ⟨b, 0, none⟩), vl] w fun e w' => SumPost w b B (Pv.addAll 1 l (P.map (·.1))) e w' := by
  have HL := hide hl
  have HLO := hide hlo
  have HSS := hide hS
  obtain ⟨xl, cl, rfl⟩ := RdO.sl (hl w (Below.refl _ _))
  have H0 : Hid (∃ v P', w.heap[b]? = some (.cells #[v] 118 (0, 0)) ∧ OwnP w B v P' ∧ P'.map (·.1) = Pv.addAll 1 (l.take 0) (P.map (·.1))) := ⟨v, P, hb, hP, rfl⟩
  clear hl hlo hS hb hP
  go_enter Tryz.func49, Tryz.ntmps49
  go_wp2
  go_loopw [4] (fun i wr => ∃ k : Nat, k ≤ l.length ∧ i = .int .i64 k ∧ Below B w wr ∧ Hid (∃ v P', wr.heap[b]? = some (.cells #[v] 118 (0, 0)) ∧ OwnP wr B v P' ∧ P'.map (·.1) = Pv.addAll 1 (l.take k) (P.map (·.1)))) (fun i _ => l.length - (intOf i).toNat)
  case atStart => exact ⟨0, by omega, rfl, Below.refl _ _, H0.out⟩
  case round =>
    obtain ⟨k, hk, rfl, hbe, HN⟩ := hrel
    have B1 := hide hbe
    clear hbe
    by_cases hlt : k < l.length
    · have hlt' : (k : Int) < (l.length : Int) := by omega
      have HR := hide (HL.out _ B1.out)
      obtain ⟨g, off, c, e, _⟩ := HR.out.form1 (by omega)
      cases e
      obtain ⟨xe, ce, hrv, c0, c1, c2, c3, c4⟩ := HR.out.cell k hlt
      obtain ⟨ho1, ho2⟩ := HLO.out _ (List.getElem_mem hlt)
      obtain ⟨v1, P1, hb1, hP1, hm1⟩ := HN.out
      have HT := hide (Pv.addAll_take 1 l (P.map (·.1)) k hlt)
      have hSk := (Pv.SumOk.all (d := d) (sign := 1) (by omega) (l.take k) HSS.out (fun o ho => HLO.out o (List.mem_of_mem_take ho))).1
      rw [← hm1, List.length_take] at hSk
      have HSK := hide hSk
      have HB1 := hide hb1
      have HP1 := hide hP1
      have HM1 := hide hm1
      have RV := hide hrv
      have HD1 : Hid (∀ x ∈ P1, x.1.2.1.length = l[k].2.1.length) := fun x hx => by
        rw [ho1]; exact HSK.out.vals _ (List.mem_map.2 ⟨x, hx, rfl⟩)
      have HBD : Hid (∀ x ∈ P1, -1000000000 ≤ x.1.2.2 ∧ x.1.2.2 ≤ 1000000000) := fun x hx => by
        have := HSK.out.bd _ (List.mem_map.2 ⟨x, hx, rfl⟩); omega
      have HPL : Hid (P1.length ≤ 1000000) := by
        show _ ≤ _
        have := HSK.out.len
        rw [List.length_map] at this; omega
      have hod : l[k].2.1.length ≤ 1000 := by omega
      have HO2 := hide ho2
      have hw1 := B1.out.size
      clear hSk hb1 hP1 hm1 hrv ho1 ho2
      have n1 : -1 ≤ l[k].2.2 := by have := HO2.out; omega
      have n2 : l[k].2.2 ≤ 1 := by have := HO2.out; omega
      go_upto_region 3 with fail
      go_still_tail 10, (by kernel_rfl)
      go_wp2_with fail
      refine (oadd_any (w := wr.drew) (o := l[k]) HB1.out ⟨HP1.out.row, HP1.out.rd⟩ hBb (Nat.le_trans hBw hw1) RV.out HD1.out hod HPL.out HBD.out (l[k].2.2) (by omega) (by omega)).mono ?_
      rintro e w3 ⟨rfl, b3, v3, P3, hb3, hP3, hm3⟩
      have B3 := hide (B1.out.trans (undrewB b3))
      have HN3 : Hid (∃ v P', w3.heap[b]? = some (.cells #[v] 118 (0, 0)) ∧ OwnP w3 B v P' ∧ P'.map (·.1) = Pv.addAll 1 (l.take (k + 1)) (P.map (·.1))) := by
        refine ⟨v3, P3, hb3, hP3, ?_⟩
        rw [hm3, HT.out, HM1.out]
        rw [Int.one_mul]; rfl
      clear c0 c1 c2 c3 c4 b3 hb3 hP3 hm3
      go_wp2
      go_roundw
      case rel => exact ⟨k + 1, by omega, by go_num, B3.out, HN3.out⟩
      case measure => simp [intOf]; omega
    · have hlt' : ¬ (k : Int) < (l.length : Int) := by omega
      obtain rfl : k = l.length := by omega
      go_wp2
      go_end0
      refine ⟨rfl, B1.out, ?_⟩
      have h := HN.out
      rw [List.take_length] at h
      exact h
set_option maxRecDepth 100000 in
set_option maxHeartbeats 2000000 in
theorem oTake_any {w : World} {b B d m : Nat} {v vl : Value} {P : List POut} {l : List Pv.Out} (hb : w.heap[b]? = some (.cells #[v] 118 (0, 0))) (hP : OwnP w B v P) (hBb : B ≤ b) (hBw : B ≤ w.heap.size) (hS : Pv.SumOk d m (P.map (·.1))) (hl : ∀ W, Below B w W → RdO W vl l) (hlo : ∀ o ∈ l, o.2.1.length = d ∧ o.2.2 = 1) (hd : d ≤ 1000) (hm : m + l.length ≤ 1000000) :
    Calls Tryz.prog 50 #[.pointer (some ⟨b, 0, none⟩), vl] w fun e w' => SumPost w b B (Pv.addAll (-1) l (P.map (·.1))) e w' := by
  have HL := hide hl
  have HLO := hide hlo
  have HSS := hide hS
  obtain ⟨xl, cl, rfl⟩ := RdO.sl (hl w (Below.refl _ _))
  have H0 : Hid (∃ v P', w.heap[b]? = some (.cells #[v] 118 (0, 0)) ∧ OwnP w B v P' ∧ P'.map (·.1) = Pv.addAll (-1) (l.take 0) (P.map (·.1))) := ⟨v, P, hb, hP, rfl⟩
  clear hl hlo hS hb hP
  go_enter Tryz.func50, Tryz.ntmps50
  go_wp2
  go_loopw [4] (fun i wr => ∃ k : Nat, k ≤ l.length ∧ i = .int .i64 k ∧ Below B w wr ∧ Hid (∃ v P', wr.heap[b]? = some (.cells #[v] 118 (0, 0)) ∧ OwnP wr B v P' ∧ P'.map (·.1) = Pv.addAll (-1) (l.take k) (P.map (·.1)))) (fun i _ => l.length - (intOf i).toNat)
  case atStart => exact ⟨0, by omega, rfl, Below.refl _ _, H0.out⟩
  case round =>
    obtain ⟨k, hk, rfl, hbe, HN⟩ := hrel
    have B1 := hide hbe
    clear hbe
    by_cases hlt : k < l.length
    · have hlt' : (k : Int) < (l.length : Int) := by omega
      have HR := hide (HL.out _ B1.out)
      obtain ⟨g, off, c, e, _⟩ := HR.out.form1 (by omega)
      cases e
      obtain ⟨xe, ce, hrv, c0, c1, c2, c3, c4⟩ := HR.out.cell k hlt
      obtain ⟨ho1, ho2⟩ := HLO.out _ (List.getElem_mem hlt)
      obtain ⟨v1, P1, hb1, hP1, hm1⟩ := HN.out
      have HT := hide (Pv.addAll_take (-1) l (P.map (·.1)) k hlt)
      have hSk := (Pv.SumOk.all (d := d) (sign := (-1)) (by omega) (l.take k) HSS.out (fun o ho => HLO.out o (List.mem_of_mem_take ho))).1
      rw [← hm1, List.length_take] at hSk
      have HSK := hide hSk
      have HB1 := hide hb1
      have HP1 := hide hP1
      have HM1 := hide hm1
      have RV := hide hrv
      have HD1 : Hid (∀ x ∈ P1, x.1.2.1.length = l[k].2.1.length) := fun x hx => by
        rw [ho1]; exact HSK.out.vals _ (List.mem_map.2 ⟨x, hx, rfl⟩)
      have HBD : Hid (∀ x ∈ P1, -1000000000 ≤ x.1.2.2 ∧ x.1.2.2 ≤ 1000000000) := fun x hx => by
        have := HSK.out.bd _ (List.mem_map.2 ⟨x, hx, rfl⟩); omega
      have HPL : Hid (P1.length ≤ 1000000) := by
        show _ ≤ _
        have := HSK.out.len
        rw [List.length_map] at this; omega
      have hod : l[k].2.1.length ≤ 1000 := by omega
      have HO2 := hide ho2
      have hw1 := B1.out.size
      clear hSk hb1 hP1 hm1 hrv ho1 ho2
      have n1 : -1 ≤ l[k].2.2 := by have := HO2.out; omega
      have n2 : l[k].2.2 ≤ 1 := by have := HO2.out; omega
      go_upto_region 3 with fail
      go_still_tail 11, (by kernel_rfl)
      go_wp2_with fail
      refine (oadd_any (w := wr.drew) (o := l[k]) HB1.out ⟨HP1.out.row, HP1.out.rd⟩ hBb (Nat.le_trans hBw hw1) RV.out HD1.out hod HPL.out HBD.out (-l[k].2.2) (by omega) (by omega)).mono ?_
      rintro e w3 ⟨rfl, b3, v3, P3, hb3, hP3, hm3⟩
      have B3 := hide (B1.out.trans (undrewB b3))
      have HN3 : Hid (∃ v P', w3.heap[b]? = some (.cells #[v] 118 (0, 0)) ∧ OwnP w3 B v P' ∧ P'.map (·.1) = Pv.addAll (-1) (l.take (k + 1)) (P.map (·.1))) := by
        refine ⟨v3, P3, hb3, hP3, ?_⟩
        rw [hm3, HT.out, HM1.out]
        rw [Int.neg_mul, Int.one_mul]; rfl
      clear c0 c1 c2 c3 c4 b3 hb3 hP3 hm3
      go_wp2
      go_roundw
      case rel => exact ⟨k + 1, by omega, by go_num, B3.out, HN3.out⟩
      case measure => simp [intOf]; omega
    · have hlt' : ¬ (k : Int) < (l.length : Int) := by omega
      obtain rfl : k = l.length := by omega
      go_wp2
      go_end0
      refine ⟨rfl, B1.out, ?_⟩
      have h := HN.out
      rw [List.take_length] at h
      exact h
end Go.Proofs.YtcoofnhdbejnpaaGreatDoor

/- Package outs: List. -/
namespace Go.Proofs.YtcoofnhdbejnpaaGreatDoor
open Go.RowKit
/-- a list of out rows that the call has made, each with values in a block of its own -/
structure OwnQ (w : World) (B : Nat) (v : Value) (P : List POut) : Prop where
  row : w.ownsRow B 55 5 v P.length (pouts P)
  own : ∀ x ∈ P, w.ownsRow B 52 2 x.2 x.1.2.1.length (rvals x.1.2.1)
  dis : P.Pairwise (fun x y => ∀ g, x.2.ownBlock = some g → y.2.ownBlock ≠ some g)
theorem OwnQ.below {w w' : World} {B : Nat} {v : Value} {P : List POut} (h : OwnQ w B v P) (hb : Below w.heap.size w w') : OwnQ w' B v P := ⟨own_below h.row hb, fun x hx => own_below (h.own x hx) hb, h.dis⟩
theorem OwnQ.nil (w : World) (B : Nat) : OwnQ w B (.slice none 0 0) [] := ⟨World.ownsRow_nil _ _ _ _, fun x h => by simp at h, List.Pairwise.nil⟩
theorem OwnQ.toP {w : World} {B : Nat} {v : Value} {P : List POut} (h : OwnQ w B v P) : OwnP w B v P := ⟨h.row, fun x hx => RdV.ofOwn (h.own x hx)⟩
theorem OwnQ.base {w : World} {B B' : Nat} {v : Value} {P : List POut} (h : OwnQ w B v P) (hB : B' ≤ B) : OwnQ w B' v P := ⟨own_base2 h.row hB, fun x hx => own_base2 (h.own x hx) hB, h.dis⟩
theorem OwnQ.push {w0 W w8 : World} {B B2 : Nat} {v v8 : Value} {P : List POut} {y : POut} (h : OwnQ w0 B v P) (hW : Below w0.heap.size w0 W) (hg : W.grownBy w8 v.ownBlock) (h8 : w8.ownsRow B 55 5 v8 (P.length + 1) (pouts P ++ oc y.1 y.2)) (hy : W.ownsRow B2 52 2 y.2 y.1.2.1.length (rvals y.1.2.1)) (hB2 : w0.heap.size ≤ B2) (hB : B ≤ w0.heap.size) : OwnQ w8 B v8 (P ++ [y]) := by
  have h1 := h.below hW
  have kp : ∀ (B' : Nat) (x : POut), W.ownsRow B' 52 2 x.2 x.1.2.1.length (rvals x.1.2.1) → w8.ownsRow B' 52 2 x.2 x.1.2.1.length (rvals x.1.2.1) := fun B' x hx => by
    refine hx.kept hg ?_
    cases hs : x.2.ownBlock with
    | none => exact .inl rfl
    | some k =>
      right
      intro e
      obtain ⟨c1, f1, e1⟩ := own_type hx hs
      obtain ⟨c2, f2, e2⟩ := own_type h1.row e.symm
      rw [e1] at e2; cases e2
  refine ⟨by rw [pouts_snoc, List.length_append]; exact h8, fun x hx => ?_, ?_⟩
  · rcases List.mem_append.1 hx with q | q
    · exact kp B x (h1.own x q)
    · rw [List.mem_singleton.1 q]; exact own_base2 (kp B2 y hy) (by omega)
  · rw [List.pairwise_append]
    refine ⟨h.dis, List.pairwise_singleton _ _, fun x hx z hz g hg1 hg2 => ?_⟩
    rw [List.mem_singleton.1 hz] at hg2
    have a1 := ((h.own x hx).lt g hg1).2
    have a2 := (hy.lt g hg2).1
    omega
def nzO (o : Pv.Out) : Bool := !(o.2.2 == 0)
theorem filtz_take (l : List Pv.Out) (k : Nat) (h : k < l.length) : (l.take (k + 1)).filter nzO = (l.take k).filter nzO ++ (if nzO l[k] = true then [l[k]] else []) := by
  rw [List.take_succ_eq_append_getElem h, List.filter_append]
  congr 1
  cases hq : nzO l[k] <;> simp [hq]
/-- a list of these out rows, all its own -/
def ListPost (w : World) (s : List Pv.Out) (e : Ending) (w' : World) : Prop :=
  Below w.heap.size w w' ∧ ∃ u P', e = .returned u ∧ OwnQ w' w.heap.size u P' ∧ P'.map (·.1) = s
set_option maxRecDepth 100000 in
set_option maxHeartbeats 4000000 in
theorem oList_any {w : World} {b B : Nat} {v : Value} {P : List POut} (hb : w.heap[b]? = some (.cells #[v] 118 (0, 0))) (hP : OwnP w B v P) (hd : ∀ x ∈ P, x.1.2.1.length ≤ 1000) (hl : P.length ≤ 1000000) :
    Calls Tryz.prog 51 #[.pointer (some ⟨b, 0, none⟩)] w fun e w' => ListPost w ((P.map (·.1)).filter nzO) e w' := by
  obtain ⟨i0, hi, hz0, hz1, hz2⟩ := info_parts infoOut
  have HB := hide hb
  have HP := hide hP
  have HD := hide hd
  obtain ⟨xv, cv, rfl⟩ := hP.form
  have hbl : b < w.heap.size := (Array.getElem?_eq_some_iff.1 hb).1
  clear hb hP hd
  go_enter Tryz.func51, Tryz.ntmps51
  go_wp2
  go_loopw [3, 4] (fun l3 i wr => ∃ k : Nat, k ≤ P.length ∧ i = .int .i64 k ∧ Below w.heap.size w wr ∧ ∃ P', OwnQ wr w.heap.size l3 P' ∧ Hid (P'.map (·.1) = ((P.map (·.1)).take k).filter nzO)) (fun _ i _ => P.length - (intOf i).toNat)
  case atStart => exact ⟨0, by omega, rfl, Below.refl _ _, [], OwnQ.nil _ _, rfl⟩
  case round =>
    obtain ⟨k, hk, rfl, hbe, P2, hq2, HM⟩ := hrel
    have B1 := hide hbe
    have Q2 := hide hq2
    obtain ⟨x3, c3', rfl⟩ := hq2.toP.form
    clear hbe hq2
    have HX : ∀ wx, Hid (Below w.heap.size w wx → wx.cell? ⟨b, 0, none⟩ = some (.slice xv P.length cv)) := fun wx h => (h.cell (p := ⟨b, 0, none⟩) hbl).trans (cell_of_heap HB.out 0)
    have q0 := (HX _).out B1.out
    by_cases hlt : k < P.length
    · have hlt' : (k : Int) < (P.length : Int) := by omega
      obtain ⟨g, c, e⟩ := HP.out.form1 (by omega)
      cases e
      obtain ⟨c0, c1, c2, c3, c4⟩ := (HP.out.below B1.out).cell k hlt
      have hkm : k < (P.map (·.1)).length := by simpa using hlt
      have HFT := hide (filtz_take (P.map (·.1)) k hkm)
      have hp2 : P2.length ≤ 1000000 := by
        have h1 := congrArg List.length HM.out
        rw [List.length_map] at h1
        have h2 := List.length_filter_le nzO ((P.map (·.1)).take k)
        rw [List.length_take, List.length_map] at h2
        omega
      have HNZ : Hid (nzO (P.map (·.1))[k] = !(P[k].1.2.2 == 0)) := by show _ = _; simp only [List.getElem_map]; rfl
      have HGK : Hid ((P.map (·.1))[k] = P[k].1) := by show _ = _; simp
      have HRV := hide (HP.out.rd _ (List.getElem_mem hlt))
      obtain ⟨xe, ce, he⟩ := RdG.sl HRV.out
      have HE := hide he
      rw [he] at c3 HRV
      clear he
      have hdk := HD.out _ (List.getElem_mem hlt)
      by_cases hz : P[k].1.2.2 = 0
      · have hz' : (P[k].1.2.2 != 0) = false := by simp [hz]
        have HNX : Hid (((P.map (·.1)).take (k + 1)).filter nzO = ((P.map (·.1)).take k).filter nzO) := by
          show _ = _
          rw [HFT.out, HNZ.out, if_neg (by simp [hz]), List.append_nil]
        clear hz
        go_wp2
        go_roundw
        case rel => exact ⟨k + 1, by omega, by go_num, B1.out, P2, Q2.out, HM.out.trans HNX.out.symm⟩
        case measure => simp [intOf]; omega
      · have hz' : (P[k].1.2.2 != 0) = true := by simp [hz]
        have HNX : Hid (((P.map (·.1)).take (k + 1)).filter nzO = ((P.map (·.1)).take k).filter nzO ++ [P[k].1]) := by
          show _ = _
          rw [HFT.out, HNZ.out, if_pos (by simp [hz]), HGK.out]
        clear hz HFT HNZ HGK
        generalize wr = wy at *
        have HCO : Hid (∀ W : World, Below wy.heap.size wy W → Calls Tryz.prog 82 #[.agg #[.int .i64 P[k].1.1.1, .int .i64 P[k].1.1.2.1, .int .i64 P[k].1.1.2.2, .slice xe P[k].1.2.1.length ce, .int .i64 P[k].1.2.2], .int .i64 P[k].1.2.2] W fun e w' => Below W.heap.size W w' ∧ ∃ x n cc, e = .returned (.agg #[.int .i64 P[k].1.1.1, .int .i64 P[k].1.1.2.1, .int .i64 P[k].1.1.2.2, .slice x n cc, .int .i64 P[k].1.2.2]) ∧ w'.ownsRow W.heap.size 52 2 (.slice x n cc) P[k].1.2.1.length (rvals P[k].1.2.1)) := fun W hW =>
          withNumber_any P[k].1 (HRV.out.below (B1.out.trans (hW.mono B1.out.size))) hdk P[k].1.2.2
        have HY : ∀ w', Hid (Below wy.heap.size wy w' → (fun w' => w'.cell? ⟨b, 0, none⟩ = some (.slice (some ⟨g, 0, none⟩) P.length cv) ∧ w'.cell? ⟨g, k * 5, none⟩ = some (.int .i64 P[k].1.1.1) ∧ w'.cell? ⟨g, k * 5 + 1, none⟩ = some (.int .i64 P[k].1.1.2.1) ∧ w'.cell? ⟨g, k * 5 + 2, none⟩ = some (.int .i64 P[k].1.1.2.2) ∧ w'.cell? ⟨g, k * 5 + 3, none⟩ = some (.slice xe P[k].1.2.1.length ce) ∧ w'.cell? ⟨g, k * 5 + 4, none⟩ = some (.int .i64 P[k].1.2.2) ∧ Hid (Below wy.heap.size wy w')) w') := fun w' hb => by
          have hW := B1.out.trans (hb.mono B1.out.size)
          obtain ⟨c0, c1, c2, c3, c4⟩ := (HP.out.below hW).cell k hlt
          rw [HE.out] at c3
          exact ⟨(HX _).out hW, c0, c1, c2, c3, c4, hb⟩
        go_upto_region 6 with fail
        clear q0 c0 c1 c2 c3 c4
        go_cut [5] from 24 to 43 (fun q5 wz => ∃ bb x n cc, q5 = .pointer (some ⟨bb, 0, none⟩) ∧ Blk wz bb #[.int .i64 P[k].1.1.1, .int .i64 P[k].1.1.2.1, .int .i64 P[k].1.1.2.2, .slice x n cc, .int .i64 P[k].1.2.2] 55 ∧ wz.ownsRow wy.heap.size 52 2 (.slice x n cc) P[k].1.2.1.length (rvals P[k].1.2.1) ∧ Below wy.heap.size wy wz)
        case first =>
          go_region_held3 (fun w' => w'.cell? ⟨b, 0, none⟩ = some (.slice (some ⟨g, 0, none⟩) P.length cv) ∧ w'.cell? ⟨g, k * 5, none⟩ = some (.int .i64 P[k].1.1.1) ∧ w'.cell? ⟨g, k * 5 + 1, none⟩ = some (.int .i64 P[k].1.1.2.1) ∧ w'.cell? ⟨g, k * 5 + 2, none⟩ = some (.int .i64 P[k].1.1.2.2) ∧ w'.cell? ⟨g, k * 5 + 3, none⟩ = some (.slice xe P[k].1.2.1.length ce) ∧ w'.cell? ⟨g, k * 5 + 4, none⟩ = some (.int .i64 P[k].1.2.2) ∧ Hid (Below wy.heap.size wy w')) (first | exact (HY _).out (below_drew0 _) | (refine (HY _).out ?_; go_split_ands; exact Below.trans (Hid.out (by assumption)) (Below.mono (by assumption) (Below.size (Hid.out (by assumption))))) | (refine (HY _).out ?_; go_split_ands; exact Below.alloc (Hid.out (by assumption)) (Below.size (Hid.out (by assumption))) _) | exact (HY _).out ((undrew (by assumption)).alloc (Below.size (undrew (by assumption))) _) | (refine (HY _).out ?_; go_split_ands; exact Below.setCell (Below.setCell (Below.setCell (Below.setCell (Below.setCell (Hid.out (by assumption)) (by simp) _) (by simp) _) (by simp) _) (by simp) _) (by simp) _)) ((go_at_call 82; refine (HCO.out _ (by go_split_ands; exact Hid.out (by assumption))).mono ?_; rintro e w5 ⟨b5, x, n, cc, rfl, own5⟩; obtain ⟨hc5, hf5⟩ := bcell b5))
          · clear hc5 hf5
            go_wp2
            go_meet
            case rel => exact ⟨_, x, n, cc, rfl, heap_alloc_new w5 _, own5.alloc _, (undrew b5).alloc (undrew b5).size _⟩
          · clear hc5 hf5
            have hz : Below wy.heap.size wy (wy.alloc (.cells #[.int .i64 0, .int .i64 0, .int .i64 0, .slice none 0 0, .int .i64 0] 55)).drew := below_dB ((Below.refl _ _).alloc (Nat.le_refl _) _)
            have hz0' : Blk (wy.alloc (.cells #[.int .i64 0, .int .i64 0, .int .i64 0, .slice none 0 0, .int .i64 0] 55)).drew wy.heap.size #[.int .i64 0, .int .i64 0, .int .i64 0, .slice none 0 0, .int .i64 0] 55 := heap_alloc_new wy _
            have HZ := hide (set5 (hz0'.below b5) (.int .i64 P[k].1.1.1) (.int .i64 P[k].1.1.2.1) (.int .i64 P[k].1.1.2.2) (.slice x n cc) (.int .i64 P[k].1.2.2))
            have HZ2 := hide (((((((hz.trans (b5.mono hz.size)).setCell (p := ⟨wy.heap.size, 0, none⟩) (Nat.le_refl _) (.int .i64 P[k].1.1.1)).setCell (p := ⟨wy.heap.size, 1, none⟩) (Nat.le_refl _) (.int .i64 P[k].1.1.2.1)).setCell (p := ⟨wy.heap.size, 2, none⟩) (Nat.le_refl _) (.int .i64 P[k].1.1.2.2)).setCell (p := ⟨wy.heap.size, 3, none⟩) (Nat.le_refl _) (.slice x n cc)).setCell (p := ⟨wy.heap.size, 4, none⟩) (Nat.le_refl _) (.int .i64 P[k].1.2.2)))
            have h2 : (wy.alloc (.cells #[.int .i64 0, .int .i64 0, .int .i64 0, .slice none 0 0, .int .i64 0] 55)).drew.heap.size = wy.heap.size + 1 := by simp
            have hne : ∀ j, (Value.slice x n cc).ownBlock = some j → j ≠ wy.heap.size := fun j hj e => by
              have h1 := (own5.lt j hj).1
              omega
            have HZ3 := hide (own_base2 (B' := wy.heap.size) (own_set_far (j := 4) (x := .int .i64 P[k].1.2.2) (own_set_far (j := 3) (x := .slice x n cc) (own_set_far (j := 2) (x := .int .i64 P[k].1.1.2.2) (own_set_far (j := 1) (x := .int .i64 P[k].1.1.2.1) (own_set_far (j := 0) (x := .int .i64 P[k].1.1.1) own5 hne) hne) hne) hne) hne) (by omega))
            clear hz hz0' hne h2
            go_wp2
            go_meet
            case rel => exact ⟨_, x, n, cc, rfl, HZ.out, HZ3.out, HZ2.out⟩
        case rest =>
          obtain ⟨bb, x, n, cc, rfl, hbk, hrv, hbz⟩ := hcut
          have v0 : wc.cell? ⟨bb, 0, none⟩ = some (.int .i64 P[k].1.1.1) := hbk.cell 0
          have v1 : wc.cell? ⟨bb, 1, none⟩ = some (.int .i64 P[k].1.1.2.1) := hbk.cell 1
          have v2 : wc.cell? ⟨bb, 2, none⟩ = some (.int .i64 P[k].1.1.2.2) := hbk.cell 2
          have v3 : wc.cell? ⟨bb, 3, none⟩ = some (.slice x n cc) := hbk.cell 3
          have v4 : wc.cell? ⟨bb, 4, none⟩ = some (.int .i64 P[k].1.2.2) := hbk.cell 4
          have QC := hide (Q2.out.below hbz)
          have RV := hide hrv
          have BZ := hide hbz
          have BC := hide (B1.out.trans (hbz.mono B1.out.size))
          have hs9 := BC.out.size
          have hs8 := B1.out.size
          clear hbk hrv hbz
          go_wp2_with (at_builtin; refine wpList_append_own_at _ rfl (.tmp 40) (.tmp 42) 42 rfl w.heap.size 55 i0 _ 5 56 Tryz.underlying42 hi hz0 hz1 hz2 rfl (by decide) _ P2.length (pouts P2) rfl (QC.out.row.alloc _) _ 1 1 (oc P[k].1 (.slice x n cc)) rfl rfl (World.news_of_block (heap_alloc_new _ _)) (oc_one _ _ _ _) (by unfold maxLen; omega) (by omega) (by simp; omega) ?_; intro v8 w8 hown8 hgrow8 hnil8 hat8; have b8 : Hid (Below w.heap.size w w8) := (BC.out.alloc hs9 _).grown hgrow8 (by simp; omega) (fun k hk => (QC.out.row.lt k hk).1); have O8 := hide (OwnQ.push (y := (P[k].1, .slice x n cc)) Q2.out (BZ.out.alloc BZ.out.size _) hgrow8 hown8 (RV.out.alloc _) (Nat.le_refl _) hs8); clear hown8 hgrow8 hnil8 hat8)
          go_roundw
          case rel => exact ⟨k + 1, by omega, by go_num, b8.out, _, O8.out, by rw [List.map_append, HM.out, HNX.out]; rfl⟩
          case measure => simp [intOf]; omega
    · have hlt' : ¬ (k : Int) < (P.length : Int) := by omega
      obtain rfl : k = P.length := by omega
      have HM2 : Hid (P2.map (·.1) = (P.map (·.1)).filter nzO) := by
        show _ = _
        rw [HM.out, List.take_of_length_le (by simp)]
      go_wp2
      go_ret
      exact ⟨B1.out, _, P2, rfl, Q2.out, HM2.out⟩
end Go.Proofs.YtcoofnhdbejnpaaGreatDoor

