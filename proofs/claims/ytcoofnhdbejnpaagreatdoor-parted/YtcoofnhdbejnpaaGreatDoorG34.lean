/- Package outs: Add, Take. -/
import Derived.Test.YtcoofnhdbejnpaaGreatDoorG33
import Derived.Test.YtcoofnhdbejnpaaGreatDoorG28
namespace Go.Proofs.YtcoofnhdbejnpaaGreatDoor
open Go.RowKit
theorem undrewB {B : Nat} {w w3 : World} (b : Below B w.drew w3) : Below B w w3 := ⟨b.os, b.tape, b.output, b.size, b.block⟩
/-- the sums are these -/
def SumPost (w : World) (b B : Nat) (s : List Pv.Out) (e : Ending) (w' : World) : Prop :=
  e = .returned (.tuple #[]) ∧ Below B w w' ∧ ∃ v' P', w'.heap[b]? = some (.cells #[v'] 118 (0, 0)) ∧ OwnP w' B v' P' ∧ P'.map (·.1) = s
set_option maxRecDepth 100000 in
set_option maxHeartbeats 2000000 in
theorem oAdd_any {w : World} {b B d m : Nat} {v vl : Value} {P : List POut} {l : List Pv.Out} (hb : w.heap[b]? = some (.cells #[v] 118 (0, 0))) (hP : OwnP w B v P) (hBb : B ≤ b) (hBw : B ≤ w.heap.size) (hS : Pv.SumOk d m (P.map (·.1))) (hl : ∀ W, Below B w W → RdO W vl l) (hlo : ∀ o ∈ l, o.2.1.length = d ∧ o.2.2 = 1) (hd : d ≤ 1000) (hm : m + l.length ≤ 1000000) :
    Calls Tryz.prog 49 #[.pointer (some ⟨b, 0, none⟩), vl] w fun e w' => SumPost w b B (Pv.addAll 1 l (P.map (·.1))) e w' := by
  have HL := hide hl
  have HLO := hide hlo
  have HSS := hide hS
  obtain ⟨xl, cl, rfl⟩ := RdO.sl (hl w (Below.refl _ _))
  have H0 : Hid (∃ v P', w.heap[b]? = some (.cells #[v] 118 (0, 0)) ∧ OwnP w B v P' ∧ P'.map (·.1) = Pv.addAll 1 (l.take 0) (P.map (·.1))) := ⟨v, P, hb, hP, rfl⟩
  clear hl hlo hS hb hP
  go_enter Tryz.func49, Tryz.ntmps49
  go_wp2
  go_loopw [4] (fun i wr => ∃ k : Nat, k ≤ l.length ∧ i = .int .i64 k ∧ Below B w wr ∧ Hid (∃ v P', wr.heap[b]? = some (.cells #[v] 118 (0, 0)) ∧ OwnP wr B v P' ∧ P'.map (·.1) = Pv.addAll 1 (l.take k) (P.map (·.1)))) (fun i _ => l.length - (intOf i).toNat)
  case atStart => exact ⟨0, by omega, rfl, Below.refl _ _, H0.out⟩
  case round =>
    obtain ⟨k, hk, rfl, hbe, HN⟩ := hrel
    have B1 := hide hbe
    clear hbe
    by_cases hlt : k < l.length
    · have hlt' : (k : Int) < (l.length : Int) := by omega
      have HR := hide (HL.out _ B1.out)
      obtain ⟨g, off, c, e, _⟩ := HR.out.form1 (by omega)
      cases e
      obtain ⟨xe, ce, hrv, c0, c1, c2, c3, c4⟩ := HR.out.cell k hlt
      obtain ⟨ho1, ho2⟩ := HLO.out _ (List.getElem_mem hlt)
      obtain ⟨v1, P1, hb1, hP1, hm1⟩ := HN.out
      have HT := hide (Pv.addAll_take 1 l (P.map (·.1)) k hlt)
      have hSk := (Pv.SumOk.all (d := d) (sign := 1) (by omega) (l.take k) HSS.out (fun o ho => HLO.out o (List.mem_of_mem_take ho))).1
      rw [← hm1, List.length_take] at hSk
      have HSK := hide hSk
      have HB1 := hide hb1
      have HP1 := hide hP1
      have HM1 := hide hm1
      have RV := hide hrv
      have HD1 : Hid (∀ x ∈ P1, x.1.2.1.length = l[k].2.1.length) := fun x hx => by
        rw [ho1]; exact HSK.out.vals _ (List.mem_map.2 ⟨x, hx, rfl⟩)
      have HBD : Hid (∀ x ∈ P1, -1000000000 ≤ x.1.2.2 ∧ x.1.2.2 ≤ 1000000000) := fun x hx => by
        have := HSK.out.bd _ (List.mem_map.2 ⟨x, hx, rfl⟩); omega
      have HPL : Hid (P1.length ≤ 1000000) := by
        show _ ≤ _
        have := HSK.out.len
        rw [List.length_map] at this; omega
      have hod : l[k].2.1.length ≤ 1000 := by omega
      have HO2 := hide ho2
      have hw1 := B1.out.size
      clear hSk hb1 hP1 hm1 hrv ho1 ho2
      have n1 : -1 ≤ l[k].2.2 := by have := HO2.out; omega
      have n2 : l[k].2.2 ≤ 1 := by have := HO2.out; omega
      go_upto_region 3 with fail
      go_still_tail 10, (by kernel_rfl)
      go_wp2_with fail
      refine (oadd_any (w := wr.drew) (o := l[k]) HB1.out ⟨HP1.out.row, HP1.out.rd⟩ hBb (Nat.le_trans hBw hw1) RV.out HD1.out hod HPL.out HBD.out (l[k].2.2) (by omega) (by omega)).mono ?_
      rintro e w3 ⟨rfl, b3, v3, P3, hb3, hP3, hm3⟩
      have B3 := hide (B1.out.trans (undrewB b3))
      have HN3 : Hid (∃ v P', w3.heap[b]? = some (.cells #[v] 118 (0, 0)) ∧ OwnP w3 B v P' ∧ P'.map (·.1) = Pv.addAll 1 (l.take (k + 1)) (P.map (·.1))) := by
        refine ⟨v3, P3, hb3, hP3, ?_⟩
        rw [hm3, HT.out, HM1.out]
        rw [Int.one_mul]; rfl
      clear c0 c1 c2 c3 c4 b3 hb3 hP3 hm3
      go_wp2
      go_roundw
      case rel => exact ⟨k + 1, by omega, by go_num, B3.out, HN3.out⟩
      case measure => simp [intOf]; omega
    · have hlt' : ¬ (k : Int) < (l.length : Int) := by omega
      obtain rfl : k = l.length := by omega
      go_wp2
      go_end0
      refine ⟨rfl, B1.out, ?_⟩
      have h := HN.out
      rw [List.take_length] at h
      exact h
set_option maxRecDepth 100000 in
set_option maxHeartbeats 2000000 in
theorem oTake_any {w : World} {b B d m : Nat} {v vl : Value} {P : List POut} {l : List Pv.Out} (hb : w.heap[b]? = some (.cells #[v] 118 (0, 0))) (hP : OwnP w B v P) (hBb : B ≤ b) (hBw : B ≤ w.heap.size) (hS : Pv.SumOk d m (P.map (·.1))) (hl : ∀ W, Below B w W → RdO W vl l) (hlo : ∀ o ∈ l, o.2.1.length = d ∧ o.2.2 = 1) (hd : d ≤ 1000) (hm : m + l.length ≤ 1000000) :
    Calls Tryz.prog 50 #[.pointer (some ⟨b, 0, none⟩), vl] w fun e w' => SumPost w b B (Pv.addAll (-1) l (P.map (·.1))) e w' := by
  have HL := hide hl
  have HLO := hide hlo
  have HSS := hide hS
  obtain ⟨xl, cl, rfl⟩ := RdO.sl (hl w (Below.refl _ _))
  have H0 : Hid (∃ v P', w.heap[b]? = some (.cells #[v] 118 (0, 0)) ∧ OwnP w B v P' ∧ P'.map (·.1) = Pv.addAll (-1) (l.take 0) (P.map (·.1))) := ⟨v, P, hb, hP, rfl⟩
  clear hl hlo hS hb hP
  go_enter Tryz.func50, Tryz.ntmps50
  go_wp2
  go_loopw [4] (fun i wr => ∃ k : Nat, k ≤ l.length ∧ i = .int .i64 k ∧ Below B w wr ∧ Hid (∃ v P', wr.heap[b]? = some (.cells #[v] 118 (0, 0)) ∧ OwnP wr B v P' ∧ P'.map (·.1) = Pv.addAll (-1) (l.take k) (P.map (·.1)))) (fun i _ => l.length - (intOf i).toNat)
  case atStart => exact ⟨0, by omega, rfl, Below.refl _ _, H0.out⟩
  case round =>
    obtain ⟨k, hk, rfl, hbe, HN⟩ := hrel
    have B1 := hide hbe
    clear hbe
    by_cases hlt : k < l.length
    · have hlt' : (k : Int) < (l.length : Int) := by omega
      have HR := hide (HL.out _ B1.out)
      obtain ⟨g, off, c, e, _⟩ := HR.out.form1 (by omega)
      cases e
      obtain ⟨xe, ce, hrv, c0, c1, c2, c3, c4⟩ := HR.out.cell k hlt
      obtain ⟨ho1, ho2⟩ := HLO.out _ (List.getElem_mem hlt)
      obtain ⟨v1, P1, hb1, hP1, hm1⟩ := HN.out
      have HT := hide (Pv.addAll_take (-1) l (P.map (·.1)) k hlt)
      have hSk := (Pv.SumOk.all (d := d) (sign := (-1)) (by omega) (l.take k) HSS.out (fun o ho => HLO.out o (List.mem_of_mem_take ho))).1
      rw [← hm1, List.length_take] at hSk
      have HSK := hide hSk
      have HB1 := hide hb1
      have HP1 := hide hP1
      have HM1 := hide hm1
      have RV := hide hrv
      have HD1 : Hid (∀ x ∈ P1, x.1.2.1.length = l[k].2.1.length) := fun x hx => by
        rw [ho1]; exact HSK.out.vals _ (List.mem_map.2 ⟨x, hx, rfl⟩)
      have HBD : Hid (∀ x ∈ P1, -1000000000 ≤ x.1.2.2 ∧ x.1.2.2 ≤ 1000000000) := fun x hx => by
        have := HSK.out.bd _ (List.mem_map.2 ⟨x, hx, rfl⟩); omega
      have HPL : Hid (P1.length ≤ 1000000) := by
        show _ ≤ _
        have := HSK.out.len
        rw [List.length_map] at this; omega
      have hod : l[k].2.1.length ≤ 1000 := by omega
      have HO2 := hide ho2
      have hw1 := B1.out.size
      clear hSk hb1 hP1 hm1 hrv ho1 ho2
      have n1 : -1 ≤ l[k].2.2 := by have := HO2.out; omega
      have n2 : l[k].2.2 ≤ 1 := by have := HO2.out; omega
      go_upto_region 3 with fail
      go_still_tail 11, (by kernel_rfl)
      go_wp2_with fail
      refine (oadd_any (w := wr.drew) (o := l[k]) HB1.out ⟨HP1.out.row, HP1.out.rd⟩ hBb (Nat.le_trans hBw hw1) RV.out HD1.out hod HPL.out HBD.out (-l[k].2.2) (by omega) (by omega)).mono ?_
      rintro e w3 ⟨rfl, b3, v3, P3, hb3, hP3, hm3⟩
      have B3 := hide (B1.out.trans (undrewB b3))
      have HN3 : Hid (∃ v P', w3.heap[b]? = some (.cells #[v] 118 (0, 0)) ∧ OwnP w3 B v P' ∧ P'.map (·.1) = Pv.addAll (-1) (l.take (k + 1)) (P.map (·.1))) := by
        refine ⟨v3, P3, hb3, hP3, ?_⟩
        rw [hm3, HT.out, HM1.out]
        rw [Int.neg_mul, Int.one_mul]; rfl
      clear c0 c1 c2 c3 c4 b3 hb3 hP3 hm3
      go_wp2
      go_roundw
      case rel => exact ⟨k + 1, by omega, by go_num, B3.out, HN3.out⟩
      case measure => simp [intOf]; omega
    · have hlt' : ¬ (k : Int) < (l.length : Int) := by omega
      obtain rfl : k = l.length := by omega
      go_wp2
      go_end0
      refine ⟨rfl, B1.out, ?_⟩
      have h := HN.out
      rw [List.take_length] at h
      exact h
end Go.Proofs.YtcoofnhdbejnpaaGreatDoor

/- Package outs: List. -/
namespace Go.Proofs.YtcoofnhdbejnpaaGreatDoor
open Go.RowKit
/-- a list of out rows that the call has made, each with values in a block of its own -/
structure OwnQ (w : World) (B : Nat) (v : Value) (P : List POut) : Prop where
  row : w.ownsRow B 55 5 v P.length (pouts P)
  own : ∀ x ∈ P, w.ownsRow B 52 2 x.2 x.1.2.1.length (rvals x.1.2.1)
  dis : P.Pairwise (fun x y => ∀ g, x.2.ownBlock = some g → y.2.ownBlock ≠ some g)
theorem OwnQ.below {w w' : World} {B : Nat} {v : Value} {P : List POut} (h : OwnQ w B v P) (hb : Below w.heap.size w w') : OwnQ w' B v P := ⟨own_below h.row hb, fun x hx => own_below (h.own x hx) hb, h.dis⟩
theorem OwnQ.nil (w : World) (B : Nat) : OwnQ w B (.slice none 0 0) [] := ⟨World.ownsRow_nil _ _ _ _, fun x h => by simp at h, List.Pairwise.nil⟩
theorem OwnQ.toP {w : World} {B : Nat} {v : Value} {P : List POut} (h : OwnQ w B v P) : OwnP w B v P := ⟨h.row, fun x hx => RdV.ofOwn (h.own x hx)⟩
theorem OwnQ.base {w : World} {B B' : Nat} {v : Value} {P : List POut} (h : OwnQ w B v P) (hB : B' ≤ B) : OwnQ w B' v P := ⟨own_base2 h.row hB, fun x hx => own_base2 (h.own x hx) hB, h.dis⟩
theorem OwnQ.push {w0 W w8 : World} {B B2 : Nat} {v v8 : Value} {P : List POut} {y : POut} (h : OwnQ w0 B v P) (hW : Below w0.heap.size w0 W) (hg : W.grownBy w8 v.ownBlock) (h8 : w8.ownsRow B 55 5 v8 (P.length + 1) (pouts P ++ oc y.1 y.2)) (hy : W.ownsRow B2 52 2 y.2 y.1.2.1.length (rvals y.1.2.1)) (hB2 : w0.heap.size ≤ B2) (hB : B ≤ w0.heap.size) : OwnQ w8 B v8 (P ++ [y]) := by
  have h1 := h.below hW
  have kp : ∀ (B' : Nat) (x : POut), W.ownsRow B' 52 2 x.2 x.1.2.1.length (rvals x.1.2.1) → w8.ownsRow B' 52 2 x.2 x.1.2.1.length (rvals x.1.2.1) := fun B' x hx => by
    refine hx.kept hg ?_
    cases hs : x.2.ownBlock with
    | none => exact .inl rfl
    | some k =>
      right
      intro e
      obtain ⟨c1, f1, e1⟩ := own_type hx hs
      obtain ⟨c2, f2, e2⟩ := own_type h1.row e.symm
      rw [e1] at e2; cases e2
  refine ⟨by rw [pouts_snoc, List.length_append]; exact h8, fun x hx => ?_, ?_⟩
  · rcases List.mem_append.1 hx with q | q
    · exact kp B x (h1.own x q)
    · rw [List.mem_singleton.1 q]; exact own_base2 (kp B2 y hy) (by omega)
  · rw [List.pairwise_append]
    refine ⟨h.dis, List.pairwise_singleton _ _, fun x hx z hz g hg1 hg2 => ?_⟩
    rw [List.mem_singleton.1 hz] at hg2
    have a1 := ((h.own x hx).lt g hg1).2
    have a2 := (hy.lt g hg2).1
    omega
def nzO (o : Pv.Out) : Bool := !(o.2.2 == 0)
theorem filtz_take (l : List Pv.Out) (k : Nat) (h : k < l.length) : (l.take (k + 1)).filter nzO = (l.take k).filter nzO ++ (if nzO l[k] = true then [l[k]] else []) := by
  rw [List.take_succ_eq_append_getElem h, List.filter_append]
  congr 1
  cases hq : nzO l[k] <;> simp [hq]
/-- a list of these out rows, all its own -/
def ListPost (w : World) (s : List Pv.Out) (e : Ending) (w' : World) : Prop :=
  Below w.heap.size w w' ∧ ∃ u P', e = .returned u ∧ OwnQ w' w.heap.size u P' ∧ P'.map (·.1) = s
set_option maxRecDepth 100000 in
set_option maxHeartbeats 4000000 in
theorem oList_any {w : World} {b B : Nat} {v : Value} {P : List POut} (hb : w.heap[b]? = some (.cells #[v] 118 (0, 0))) (hP : OwnP w B v P) (hd : ∀ x ∈ P, x.1.2.1.length ≤ 1000) (hl : P.length ≤ 1000000) :
    Calls Tryz.prog 51 #[.pointer (some ⟨b, 0, none⟩)] w fun e w' => ListPost w ((P.map (·.1)).filter nzO) e w' := by
  obtain ⟨i0, hi, hz0, hz1, hz2⟩ := info_parts infoOut
  have HB := hide hb
  have HP := hide hP
  have HD := hide hd
  obtain ⟨xv, cv, rfl⟩ := hP.form
  have hbl : b < w.heap.size := (Array.getElem?_eq_some_iff.1 hb).1
  clear hb hP hd
  go_enter Tryz.func51, Tryz.ntmps51
  go_wp2
  go_loopw [3, 4] (fun l3 i wr => ∃ k : Nat, k ≤ P.length ∧ i = .int .i64 k ∧ Below w.heap.size w wr ∧ ∃ P', OwnQ wr w.heap.size l3 P' ∧ Hid (P'.map (·.1) = ((P.map (·.1)).take k).filter nzO)) (fun _ i _ => P.length - (intOf i).toNat)
  case atStart => exact ⟨0, by omega, rfl, Below.refl _ _, [], OwnQ.nil _ _, rfl⟩
  case round =>
    obtain ⟨k, hk, rfl, hbe, P2, hq2, HM⟩ := hrel
    have B1 := hide hbe
    have Q2 := hide hq2
    obtain ⟨x3, c3', rfl⟩ := hq2.toP.form
    clear hbe hq2
    have HX : ∀ wx, Hid (Below w.heap.size w wx → wx.cell? ⟨b, 0, none⟩ = some (.slice xv P.length cv)) := fun wx h => (h.cell (p := ⟨b, 0, none⟩) hbl).trans (cell_of_heap HB.out 0)
    have q0 := (HX _).out B1.out
    by_cases hlt : k < P.length
    · have hlt' : (k : Int) < (P.length : Int) := by omega
      obtain ⟨g, c, e⟩ := HP.out.form1 (by omega)
      cases e
      obtain ⟨c0, c1, c2, c3, c4⟩ := (HP.out.below B1.out).cell k hlt
      have hkm : k < (P.map (·.1)).length := by simpa using hlt
      have HFT := hide (filtz_take (P.map (·.1)) k hkm)
      have hp2 : P2.length ≤ 1000000 := by
        have h1 := congrArg List.length HM.out
        rw [List.length_map] at h1
        have h2 := List.length_filter_le nzO ((P.map (·.1)).take k)
        rw [List.length_take, List.length_map] at h2
        omega
      have HNZ : Hid (nzO (P.map (·.1))[k] = !(P[k].1.2.2 == 0)) := by show _ = _; simp only [List.getElem_map]; rfl
      have HGK : Hid ((P.map (·.1))[k] = P[k].1) := by show _ = _; simp
      have HRV := hide (HP.out.rd _ (List.getElem_mem hlt))
      obtain ⟨xe, ce, he⟩ := RdG.sl HRV.out
      have HE := hide he
      rw [he] at c3 HRV
      clear he
      have hdk := HD.out _ (List.getElem_mem hlt)
      by_cases hz : P[k].1.2.2 = 0
      · have hz' : (P[k].1.2.2 != 0) = false := by simp [hz]
        have HNX : Hid (((P.map (·.1)).take (k + 1)).filter nzO = ((P.map (·.1)).take k).filter nzO) := by
          show _ = _
          rw [HFT.out, HNZ.out, if_neg (by simp [hz]), List.append_nil]
        clear hz
        go_wp2
        go_roundw
        case rel => exact ⟨k + 1, by omega, by go_num, B1.out, P2, Q2.out, HM.out.trans HNX.out.symm⟩
        case measure => simp [intOf]; omega
      · have hz' : (P[k].1.2.2 != 0) = true := by simp [hz]
        have HNX : Hid (((P.map (·.1)).take (k + 1)).filter nzO = ((P.map (·.1)).take k).filter nzO ++ [P[k].1]) := by
          show _ = _
          rw [HFT.out, HNZ.out, if_pos (by simp [hz]), HGK.out]
        clear hz HFT HNZ HGK
        generalize wr = wy at *
        have HCO : Hid (∀ W : World, Below wy.heap.size wy W → Calls Tryz.prog 82 #[.agg #[.int .i64 P[k].1.1.1, .int .i64 P[k].1.1.2.1, .int .i64 P[k].1.1.2.2, .slice xe P[k].1.2.1.length ce, .int .i64 P[k].1.2.2], .int .i64 P[k].1.2.2] W fun e w' => Below W.heap.size W w' ∧ ∃ x n cc, e = .returned (.agg #[.int .i64 P[k].1.1.1, .int .i64 P[k].1.1.2.1, .int .i64 P[k].1.1.2.2, .slice x n cc, .int .i64 P[k].1.2.2]) ∧ w'.ownsRow W.heap.size 52 2 (.slice x n cc) P[k].1.2.1.length (rvals P[k].1.2.1)) := fun W hW =>
          withNumber_any P[k].1 (HRV.out.below (B1.out.trans (hW.mono B1.out.size))) hdk P[k].1.2.2
        have HY : ∀ w', Hid (Below wy.heap.size wy w' → (fun w' => w'.cell? ⟨b, 0, none⟩ = some (.slice (some ⟨g, 0, none⟩) P.length cv) ∧ w'.cell? ⟨g, k * 5, none⟩ = some (.int .i64 P[k].1.1.1) ∧ w'.cell? ⟨g, k * 5 + 1, none⟩ = some (.int .i64 P[k].1.1.2.1) ∧ w'.cell? ⟨g, k * 5 + 2, none⟩ = some (.int .i64 P[k].1.1.2.2) ∧ w'.cell? ⟨g, k * 5 + 3, none⟩ = some (.slice xe P[k].1.2.1.length ce) ∧ w'.cell? ⟨g, k * 5 + 4, none⟩ = some (.int .i64 P[k].1.2.2) ∧ Hid (Below wy.heap.size wy w')) w') := fun w' hb => by
          have hW := B1.out.trans (hb.mono B1.out.size)
          obtain ⟨c0, c1, c2, c3, c4⟩ := (HP.out.below hW).cell k hlt
          rw [HE.out] at c3
          exact ⟨(HX _).out hW, c0, c1, c2, c3, c4, hb⟩
        go_upto_region 6 with fail
        clear q0 c0 c1 c2 c3 c4
        go_cut [5] from 24 to 43 (fun q5 wz => ∃ bb x n cc, q5 = .pointer (some ⟨bb, 0, none⟩) ∧ Blk wz bb #[.int .i64 P[k].1.1.1, .int .i64 P[k].1.1.2.1, .int .i64 P[k].1.1.2.2, .slice x n cc, .int .i64 P[k].1.2.2] 55 ∧ wz.ownsRow wy.heap.size 52 2 (.slice x n cc) P[k].1.2.1.length (rvals P[k].1.2.1) ∧ Below wy.heap.size wy wz)
        case first =>
          go_region_held3 (fun w' => w'.cell? ⟨b, 0, none⟩ = some (.slice (some ⟨g, 0, none⟩) P.length cv) ∧ w'.cell? ⟨g, k * 5, none⟩ = some (.int .i64 P[k].1.1.1) ∧ w'.cell? ⟨g, k * 5 + 1, none⟩ = some (.int .i64 P[k].1.1.2.1) ∧ w'.cell? ⟨g, k * 5 + 2, none⟩ = some (.int .i64 P[k].1.1.2.2) ∧ w'.cell? ⟨g, k * 5 + 3, none⟩ = some (.slice xe P[k].1.2.1.length ce) ∧ w'.cell? ⟨g, k * 5 + 4, none⟩ = some (.int .i64 P[k].1.2.2) ∧ Hid (Below wy.heap.size wy w')) (first | exact (HY _).out (below_drew0 _) | (refine (HY _).out ?_; go_split_ands; exact Below.trans (Hid.out (by assumption)) (Below.mono (by assumption) (Below.size (Hid.out (by assumption))))) | (refine (HY _).out ?_; go_split_ands; exact Below.alloc (Hid.out (by assumption)) (Below.size (Hid.out (by assumption))) _) | exact (HY _).out ((undrew (by assumption)).alloc (Below.size (undrew (by assumption))) _) | (refine (HY _).out ?_; go_split_ands; exact Below.setCell (Below.setCell (Below.setCell (Below.setCell (Below.setCell (Hid.out (by assumption)) (by simp) _) (by simp) _) (by simp) _) (by simp) _) (by simp) _)) ((go_at_call 82; refine (HCO.out _ (by go_split_ands; exact Hid.out (by assumption))).mono ?_; rintro e w5 ⟨b5, x, n, cc, rfl, own5⟩; obtain ⟨hc5, hf5⟩ := bcell b5))
          · clear hc5 hf5
            go_wp2
            go_meet
            case rel => exact ⟨_, x, n, cc, rfl, heap_alloc_new w5 _, own5.alloc _, (undrew b5).alloc (undrew b5).size _⟩
          · clear hc5 hf5
            have hz : Below wy.heap.size wy (wy.alloc (.cells #[.int .i64 0, .int .i64 0, .int .i64 0, .slice none 0 0, .int .i64 0] 55)).drew := below_dB ((Below.refl _ _).alloc (Nat.le_refl _) _)
            have hz0' : Blk (wy.alloc (.cells #[.int .i64 0, .int .i64 0, .int .i64 0, .slice none 0 0, .int .i64 0] 55)).drew wy.heap.size #[.int .i64 0, .int .i64 0, .int .i64 0, .slice none 0 0, .int .i64 0] 55 := heap_alloc_new wy _
            have HZ := hide (set5 (hz0'.below b5) (.int .i64 P[k].1.1.1) (.int .i64 P[k].1.1.2.1) (.int .i64 P[k].1.1.2.2) (.slice x n cc) (.int .i64 P[k].1.2.2))
            have HZ2 := hide (((((((hz.trans (b5.mono hz.size)).setCell (p := ⟨wy.heap.size, 0, none⟩) (Nat.le_refl _) (.int .i64 P[k].1.1.1)).setCell (p := ⟨wy.heap.size, 1, none⟩) (Nat.le_refl _) (.int .i64 P[k].1.1.2.1)).setCell (p := ⟨wy.heap.size, 2, none⟩) (Nat.le_refl _) (.int .i64 P[k].1.1.2.2)).setCell (p := ⟨wy.heap.size, 3, none⟩) (Nat.le_refl _) (.slice x n cc)).setCell (p := ⟨wy.heap.size, 4, none⟩) (Nat.le_refl _) (.int .i64 P[k].1.2.2)))
            have h2 : (wy.alloc (.cells #[.int .i64 0, .int .i64 0, .int .i64 0, .slice none 0 0, .int .i64 0] 55)).drew.heap.size = wy.heap.size + 1 := by simp
            have hne : ∀ j, (Value.slice x n cc).ownBlock = some j → j ≠ wy.heap.size := fun j hj e => by
              have h1 := (own5.lt j hj).1
              omega
            have HZ3 := hide (own_base2 (B' := wy.heap.size) (own_set_far (j := 4) (x := .int .i64 P[k].1.2.2) (own_set_far (j := 3) (x := .slice x n cc) (own_set_far (j := 2) (x := .int .i64 P[k].1.1.2.2) (own_set_far (j := 1) (x := .int .i64 P[k].1.1.2.1) (own_set_far (j := 0) (x := .int .i64 P[k].1.1.1) own5 hne) hne) hne) hne) hne) (by omega))
            clear hz hz0' hne h2
            go_wp2
            go_meet
            case rel => exact ⟨_, x, n, cc, rfl, HZ.out, HZ3.out, HZ2.out⟩
        case rest =>
          obtain ⟨bb, x, n, cc, rfl, hbk, hrv, hbz⟩ := hcut
          have v0 : wc.cell? ⟨bb, 0, none⟩ = some (.int .i64 P[k].1.1.1) := hbk.cell 0
          have v1 : wc.cell? ⟨bb, 1, none⟩ = some (.int .i64 P[k].1.1.2.1) := hbk.cell 1
          have v2 : wc.cell? ⟨bb, 2, none⟩ = some (.int .i64 P[k].1.1.2.2) := hbk.cell 2
          have v3 : wc.cell? ⟨bb, 3, none⟩ = some (.slice x n cc) := hbk.cell 3
          have v4 : wc.cell? ⟨bb, 4, none⟩ = some (.int .i64 P[k].1.2.2) := hbk.cell 4
          have QC := hide (Q2.out.below hbz)
          have RV := hide hrv
          have BZ := hide hbz
          have BC := hide (B1.out.trans (hbz.mono B1.out.size))
          have hs9 := BC.out.size
          have hs8 := B1.out.size
          clear hbk hrv hbz
          go_wp2_with (at_builtin; refine wpList_append_own_at _ rfl (.tmp 40) (.tmp 42) 42 rfl w.heap.size 55 i0 _ 5 56 Tryz.underlying42 hi hz0 hz1 hz2 rfl (by decide) _ P2.length (pouts P2) rfl (QC.out.row.alloc _) _ 1 1 (oc P[k].1 (.slice x n cc)) rfl rfl (World.news_of_block (heap_alloc_new _ _)) (oc_one _ _ _ _) (by unfold maxLen; omega) (by omega) (by simp; omega) ?_; intro v8 w8 hown8 hgrow8 hnil8 hat8; have b8 : Hid (Below w.heap.size w w8) := (BC.out.alloc hs9 _).grown hgrow8 (by simp; omega) (fun k hk => (QC.out.row.lt k hk).1); have O8 := hide (OwnQ.push (y := (P[k].1, .slice x n cc)) Q2.out (BZ.out.alloc BZ.out.size _) hgrow8 hown8 (RV.out.alloc _) (Nat.le_refl _) hs8); clear hown8 hgrow8 hnil8 hat8)
          go_roundw
          case rel => exact ⟨k + 1, by omega, by go_num, b8.out, _, O8.out, by rw [List.map_append, HM.out, HNX.out]; rfl⟩
          case measure => simp [intOf]; omega
    · have hlt' : ¬ (k : Int) < (P.length : Int) := by omega
      obtain rfl : k = P.length := by omega
      have HM2 : Hid (P2.map (·.1) = (P.map (·.1)).filter nzO) := by
        show _ = _
        rw [HM.out, List.take_of_length_le (by simp)]
      go_wp2
      go_ret
      exact ⟨B1.out, _, P2, rfl, Q2.out, HM2.out⟩
end Go.Proofs.YtcoofnhdbejnpaaGreatDoor

/- Package lines: all lines in memory; placeOfPart. -/
namespace Go.Proofs.YtcoofnhdbejnpaaGreatDoor
open Go.RowKit
def lineCells (vk : Value) (vs : List Value) : List Value := vs.flatMap (fun v => [vk, v])
theorem lineCells_len (vk : Value) (vs : List Value) : (lineCells vk vs).length = vs.length * 2 := by
  induction vs with
  | nil => rfl
  | cons v vs ih => simp only [lineCells, List.flatMap_cons, List.length_append] at ih ⊢; rw [ih]; simp; omega
theorem lineCells_snoc (vk : Value) (vs : List Value) (v : Value) : lineCells vk (vs ++ [v]) = lineCells vk vs ++ [vk, v] := by simp [lineCells]
theorem lineCells_get (vk : Value) : ∀ (vs : List Value) (n : Nat) (h : n < vs.length), (lineCells vk vs)[n * 2]? = some vk ∧ (lineCells vk vs)[n * 2 + 1]? = some vs[n]
  | [], n, h => by simp at h
  | c :: l, 0, _ => by simp [lineCells]
  | c :: l, n + 1, h => by
    have ih := lineCells_get vk l n (by simpa using h)
    have e : lineCells vk (c :: l) = [vk, c] ++ lineCells vk l := by simp [lineCells]
    have hl : [vk, c].length = 2 := rfl
    rw [e]
    refine ⟨?_, ?_⟩
    · rw [List.getElem?_append_right (by omega), hl, show (n + 1) * 2 - 2 = n * 2 by omega]; exact ih.1
    · rw [List.getElem?_append_right (by omega), hl, show (n + 1) * 2 + 1 - 2 = n * 2 + 1 by omega]; exact ih.2
theorem lineCells_set (vk : Value) : ∀ (vs : List Value) (j : Nat) (c : Value), j < vs.length → lineCells vk (vs.set j c) = (lineCells vk vs).set (j * 2 + 1) c
  | [], j, _, h => by simp at h
  | d :: l, 0, c, _ => by simp [lineCells]
  | d :: l, j + 1, c, h => by
    have ih := lineCells_set vk l j c (by simpa using h)
    have e : ∀ m : List Value, ∀ d, lineCells vk (d :: m) = [vk, d] ++ lineCells vk m := fun m d => by simp [lineCells]
    have hl : [vk, d].length = 2 := rfl
    rw [List.set_cons_succ, e, e, ih, List.set_append_right _ _ (by omega), hl, show (j + 1) * 2 + 1 - 2 = j * 2 + 1 by omega]
/-- all lines in memory: their row, and the copies of each in a block of its own -/
structure LAll (w : World) (B : Nat) (va vk : Value) (vs : List Value) (all : List (List Pv.R3)) : Prop where
  row : w.ownsRow B 176 2 va all.length (lineCells vk vs)
  len : vs.length = all.length
  own : ∀ j (h1 : j < vs.length) (h2 : j < all.length), w.ownsRow B 48 3 vs[j] all[j].length (rrows all[j])
  dis : ∀ i j (hi : i < vs.length) (hj : j < vs.length), i ≠ j → ∀ g, vs[i].ownBlock = some g → vs[j].ownBlock ≠ some g
theorem LAll.below {w w' : World} {B : Nat} {va vk : Value} {vs : List Value} {all : List (List Pv.R3)} (h : LAll w B va vk vs all) (hb : Below w.heap.size w w') : LAll w' B va vk vs all :=
  ⟨own_below h.row hb, h.len, fun j h1 h2 => own_below (h.own j h1 h2) hb, h.dis⟩
theorem LAll.nil (w : World) (B : Nat) (vk : Value) : LAll w B (.slice none 0 0) vk [] [] :=
  ⟨World.ownsRow_nil _ _ _ _, rfl, fun j h => by simp at h, fun i j h => by simp at h⟩
theorem LAll.at {w : World} {B g n cap : Nat} {vk : Value} {vs : List Value} {all : List (List Pv.R3)} {ks : List (Nat × Bool)} (h : LAll w B (.slice (some ⟨g, 0, none⟩) n cap) vk vs all) (hk : RdK w vk ks) (j : Nat) (hj : j < all.length) : LnAt w g (j * 2) vk (vs[j]'(by rw [h.len]; exact hj)) ks all[j] := by
  have hjv : j < vs.length := by rw [h.len]; exact hj
  obtain ⟨e0, e1⟩ := lineCells_get vk vs j hjv
  have hrd := RdG.ofOwn h.row
  have c0 := RdG.cell hrd _ _ e0
  have c1 := RdG.cell hrd _ _ e1
  rw [Nat.zero_add] at c0 c1
  exact ⟨c0, c1, hk, RdR.ofOwn (h.own j hjv hj)⟩
/-- a line has turned: the others are as they were -/
theorem LAll.put {w w' : World} {B g n cap : Nat} {vk v' : Value} {vs : List Value} {all : List (List Pv.R3)} {L' : List Pv.R3} (h : LAll w B (.slice (some ⟨g, 0, none⟩) n cap) vk vs all) (j : Nat) (hj : j < all.length) {cur : Array Value} (hcur : w.heap[g]? = some (.cells cur 176 (0, 0)))
    (hbut : But (fun k => k = g ∨ (vs[j]'(by rw [h.len]; exact hj)).ownBlock = some k) w w') (hb' : w'.heap[g]? = some (.cells (cur.setIfInBounds (j * 2 + 1) v') 176 (0, 0))) (ho' : w'.ownsRow B 48 3 v' L'.length (rrows L')) (hn : ∀ k, v'.ownBlock = some k → (vs[j]'(by rw [h.len]; exact hj)).ownBlock = some k ∨ w.heap.size ≤ k) :
    LAll w' B (.slice (some ⟨g, 0, none⟩) n cap) vk (vs.set j v') (all.set j L') := by
  have hjv : j < vs.length := by rw [h.len]; exact hj
  have hgT : ∀ i (hi : i < vs.length), vs[i].ownBlock ≠ some g := fun i hi e => by
    obtain ⟨c2, fz, h2⟩ := own_type (h.own i hi (by rw [← h.len]; exact hi)) e
    rw [hcur] at h2; cases h2
  refine ⟨?_, by simp [h.len], fun i h1 h2 => ?_, fun i i2 hi hi2 hne k hk => ?_⟩
  · have hl := h.row.1
    refine ⟨by rw [lineCells_len, List.length_set, List.length_set, h.len], ?_⟩
    rcases h.row.2 with ⟨h1, _⟩ | ⟨g', cap', cur', h1, h2, h3, h4, h5, h6, h7⟩
    · cases h1
    · cases h1
      rw [hcur] at h3
      cases h3
      refine .inr ⟨g, cap, cur.setIfInBounds (j * 2 + 1) v', by rw [List.length_set], h2, hb', by rw [List.length_set]; exact h4, h5, by simpa using h6, ?_⟩
      rw [List.length_set, lineCells_set vk vs j v' hjv, ← h7]
      simp only [Array.toList_setIfInBounds]
      rw [List.take_set]
  · rw [List.length_set] at h1 h2
    by_cases e : i = j
    · subst e
      simp only [List.getElem_set_self]
      exact ho'
    · rw [List.getElem_set_ne (fun q => e q.symm), List.getElem_set_ne (fun q => e q.symm)]
      refine own_but (h.own i h1 h2) hbut (fun k hk => ?_)
      rintro (q | q)
      · subst q; exact hgT i h1 hk
      · exact h.dis i j h1 hjv e k hk q
  · have hiv : i < vs.length := by rw [List.length_set] at hi; exact hi
    have hi2v : i2 < vs.length := by rw [List.length_set] at hi2; exact hi2
    by_cases e : i = j
    · subst e
      rw [List.getElem_set_self] at hk
      rw [List.getElem_set_ne (fun q => hne q)]
      intro q
      rcases hn k hk with q2 | q2
      · exact h.dis i i2 hjv hi2v hne k q2 q
      · have := ((h.own i2 hi2v (by rw [← h.len]; exact hi2v)).lt k q).2; omega
    · rw [List.getElem_set_ne (fun q => e q.symm)] at hk
      by_cases e2 : i2 = j
      · subst e2
        rw [List.getElem_set_self]
        intro q
        rcases hn k q with q2 | q2
        · exact h.dis i i2 hiv hjv e k hk q2
        · have := ((h.own i hiv (by rw [← h.len]; exact hiv)).lt k hk).2; omega
      · rw [List.getElem_set_ne (fun q => e2 q.symm)]
        exact h.dis i i2 hiv hi2v hne k hk
/-- an empty line more -/
theorem LAll.push {w W w6 : World} {B : Nat} {va va' vk : Value} {vs : List Value} {all : List (List Pv.R3)} (h : LAll w B va vk vs all) (hW : Below w.heap.size w W) (hg : W.grownBy w6 va.ownBlock) (ho : w6.ownsRow B 176 2 va' (all.length + 1) (lineCells vk vs ++ [vk, .slice none 0 0])) : LAll w6 B va' vk (vs ++ [.slice none 0 0]) (all ++ [[]]) := by
  have h1 := h.below hW
  refine ⟨by rw [lineCells_snoc, List.length_append]; exact ho, by simp [h.len], fun j hj1 hj2 => ?_, fun i j hi hj hne k hk => ?_⟩
  · by_cases hj : j < vs.length
    · have hja : j < all.length := by rw [← h.len]; exact hj
      rw [List.getElem_append_left hj, List.getElem_append_left hja]
      refine (h1.own j hj hja).kept hg ?_
      cases hs : vs[j].ownBlock with
      | none => exact .inl rfl
      | some k =>
        right
        intro e
        obtain ⟨c1, f1, e1⟩ := own_type (h1.own j hj hja) hs
        obtain ⟨c2, f2, e2⟩ := own_type h1.row e.symm
        rw [e1] at e2; cases e2
    · rw [List.length_append] at hj1
      have hjv : j = vs.length := by simp at hj1; omega
      have ev : (vs ++ [Value.slice none 0 0])[j] = .slice none 0 0 := by subst hjv; simp
      have ea : (all ++ [[]])[j] = [] := by
        have hja : j = all.length := by rw [← h.len]; exact hjv
        subst hja; simp
      rw [ev, ea]
      exact World.ownsRow_nil _ _ _ _
  · by_cases hi1 : i < vs.length
    · rw [List.getElem_append_left hi1] at hk
      by_cases hj1 : j < vs.length
      · rw [List.getElem_append_left hj1]
        exact h.dis i j hi1 hj1 hne k hk
      · rw [List.length_append] at hj
        have hjv : j = vs.length := by simp at hj; omega
        have ev : (vs ++ [Value.slice none 0 0])[j] = .slice none 0 0 := by subst hjv; simp
        rw [ev]; simp [Value.ownBlock]
    · rw [List.length_append] at hi
      have hjv : i = vs.length := by simp at hi; omega
      have ev : (vs ++ [Value.slice none 0 0])[i] = .slice none 0 0 := by subst hjv; simp
      rw [ev] at hk; simp [Value.ownBlock] at hk
set_option maxRecDepth 100000 in
set_option maxHeartbeats 2000000 in
theorem lplace_any {w : World} {B : Nat} {va vk vb : Value} {vs : List Value} {all : List (List Pv.R3)} {cs : List Nat} {ks : List (Nat × Bool)} (h : LAll w B va vk vs all) (hk : RdK w vk ks) (hb : RdB w vb cs) (hl : cs.length ≤ 1000) (hc : ∀ c ∈ cs, c < 3) (hal : all.length ≤ 100000) (p' u' v' : Int) :
    Calls Tryz.prog 134 #[va, vb, .agg #[.int .i64 p', .int .i64 u', .int .i64 v']] w fun e w' => e = .returned (.int .i64 (Pv.partAt cs (p', u', v') all : Nat)) ∧ Below w.heap.size w w' := by
  have HH := hide h
  have HK := hide hk
  have HB := hide hb
  have HC := hide hc
  obtain ⟨xa, ca, rfl⟩ : ∃ x c, va = .slice x all.length c := by
    rcases own_form h.row with ⟨h, h2⟩ | ⟨g, c, h⟩
    · exact ⟨none, 0, by rw [h, h2]⟩
    · exact ⟨_, c, h⟩
  obtain ⟨xb, cb, rfl⟩ := RdG.sl hb
  clear h hk hb hc
  go_enter Tryz.func134, Tryz.ntmps134
  go_upto_region 1 with fail
  have C0 := hide (K1.start w #[.int .i64 p', .int .i64 u', .int .i64 v'] 48)
  generalize w.alloc (.cells #[.int .i64 p', .int .i64 u', .int .i64 v'] 48) = w0 at *
  go_wp2
  go_loopw [7] (fun i wr => ∃ k : Nat, k ≤ all.length ∧ i = .int .i64 k ∧ Below w0.heap.size w0 wr ∧ Hid (∀ j (hj : j < all.length), j < k → Pv.isPart cs all[j] (p', u', v') = false)) (fun i _ => all.length - (intOf i).toNat)
  case atStart => exact ⟨0, by omega, rfl, Below.refl _ _, fun j hj h => by omega⟩
  case round =>
    obtain ⟨k, hk, rfl, hb, HN⟩ := hrel
    have B1 := hide hb
    clear hb
    have C1 := hide (C0.out.below B1.out)
    have r0 : wr.cell? ⟨w.heap.size, 0, none⟩ = some (.int .i64 p') := cell_of_heap C1.out.a 0
    have r1 : wr.cell? ⟨w.heap.size, 1, none⟩ = some (.int .i64 u') := cell_of_heap C1.out.a 1
    have r2 : wr.cell? ⟨w.heap.size, 2, none⟩ = some (.int .i64 v') := cell_of_heap C1.out.a 2
    by_cases hlt : k < all.length
    · have hlt' : (k : Int) < (all.length : Int) := by omega
      obtain ⟨g, cap, e⟩ : ∃ g cap, (Value.slice xa all.length ca) = .slice (some ⟨g, 0, none⟩) all.length cap := by
        rcases own_form HH.out.row with ⟨_, h2⟩ | h
        · omega
        · exact h
      cases e
      have HL := hide ((HH.out.below (below_d C1.out.bl)).at (HK.out.below (below_d C1.out.bl)) k hlt)
      go_upto_region 2 with fail
      go_still_tail 10, (by kernel_rfl)
      go_wp2_with fail
      refine (lpart_any HL.out.c1 HL.out.rc (HB.out.below (below_d C1.out.bl)) hl HC.out _ _ _).mono ?_
      rintro e w3 ⟨rfl, e3⟩
      replace e3 := undrew e3
      have B3 := hide (B1.out.trans (e3.mono B1.out.size))
      have BW := hide (C0.out.below B3.out).bl
      clear r0 r1 r2 e3 HL
      cases hlw : Pv.isPart cs all[k] (p', u', v')
      · have HLW : Hid (Pv.isPart cs all[k] (p', u', v') = false) := hlw
        go_wp2
        go_roundw
        case rel =>
          refine ⟨k + 1, by omega, by go_num, B3.out, fun j hj h => ?_⟩
          rcases Nat.lt_or_ge j k with h1 | h1
          · exact HN.out j hj h1
          · obtain rfl : j = k := by omega
            exact HLW.out
        case measure => simp [intOf]; omega
      · have HP := hide (Pv.partAt_is cs (p', u', v') all k (by omega) (fun j hj h => HN.out j hj h) (fun h => hlw))
        go_wp2
        go_ret
        exact ⟨by rw [HP.out]; rfl, BW.out⟩
    · have hlt' : ¬ (k : Int) < (all.length : Int) := by omega
      have HP := hide (Pv.partAt_is cs (p', u', v') all k hk (fun j hj h => HN.out j hj h) (fun h => by omega))
      go_wp2
      go_quiet (fail)
      go_wp2
      go_ret
      exact ⟨by rw [HP.out]; rfl, below_drewM C1.out.bl _⟩
end Go.Proofs.YtcoofnhdbejnpaaGreatDoor

