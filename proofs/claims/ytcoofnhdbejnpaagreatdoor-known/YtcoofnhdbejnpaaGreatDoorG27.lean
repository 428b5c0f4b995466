/- Package lines: frame, value. -/
import Derived.Test.YtcoofnhdbejnpaaGreatDoorG25
import Derived.Test.YtcoofnhdbejnpaaGreatDoorG26
namespace Go.Proofs.YtcoofnhdbejnpaaGreatDoor
open Go.RowKit
structure EdgeOk (e : Pq.Edge) : Prop where
  kind : e.kind < 5
  n0 : 0 ≤ e.num
  n1 : e.num ≤ 1000
structure FrameOk (f : Pq.Frame) : Prop where
  kind : f.kind < 4
  n0 : 0 ≤ f.num
  n1 : f.num ≤ 1000
  frm : EdgeOk f.frm
  upto : EdgeOk f.to
structure FnOk (f : Pq.Fn) : Prop where
  kind : f.kind < 12
  col : f.col < 3
  n0 : 0 ≤ f.num
  n1 : f.num ≤ 1000
  tile : f.kind = 3 → 1 ≤ f.num
  frame : FrameOk f.frame
def frval (f : Pq.Frame) : Value := .agg #[.int .i64 (f.kind : Int), .int .i64 f.num, .int .i64 (f.frm.kind : Int), .int .i64 f.frm.num, .int .i64 (f.to.kind : Int), .int .i64 f.to.num]
/-- what a frame's two positions say -/
def FrPost (ks : List (Nat × Bool)) (L : List Pv.R3) (f : Pq.Frame) (i : Nat) (hi : i < L.length) (w : World) (e : Ending) (w' : World) : Prop :=
  Below w.heap.size w w' ∧ ∃ x y : Int, e = .returned (.tuple #[.int .i64 x, .int .i64 y]) ∧ (x ≤ y → 1 ≤ x ∧ y ≤ L.length) ∧ Pv.insideF ks f L.length L[i] ((i : Int) + 1) 1 (Pv.cp L) = Pv.segI L x y
theorem cutA_bd (a : Int) (h : -1000000 ≤ a) (h2 : a ≤ 1000000) : 1 ≤ Pv.cutA a := by unfold Pv.cutA; split <;> omega
theorem cutB_bd (b n : Int) : Pv.cutB b n ≤ n := by unfold Pv.cutB; split <;> omega
theorem edgeP_bd {e : Pq.Edge} (h : EdgeOk e) (n i : Int) (hn : 0 ≤ n) (hn2 : n ≤ 100000) (hi : 0 ≤ i) (hi2 : i ≤ 100001) : -1000000 ≤ Pv.edgeP e n i ∧ Pv.edgeP e n i ≤ 1000000 := by
  have h1 := h.n0
  have h2 := h.n1
  unfold Pv.edgeP
  split
  · omega
  · split
    · omega
    · split
      · omega
      · split <;> omega
set_option maxRecDepth 100000 in
set_option maxHeartbeats 1000000 in
theorem lframe_all {w : World} {g o : Nat} {vk vc : Value} {ks : List (Nat × Bool)} {L : List Pv.R3} (h : LnAt w g o vk vc ks L) (hk : LnOk ks L) (f : Pq.Frame) (hf : FrameOk f) (hkd : f.kind = 0) (i : Nat) (hi : i < L.length) :
    Calls Tryz.prog 180 #[.pointer (some ⟨g, o, none⟩), .agg #[.int .i64 0, .int .i64 f.num, .int .i64 (f.frm.kind : Int), .int .i64 f.frm.num, .int .i64 (f.to.kind : Int), .int .i64 f.to.num], .int .i64 ((i : Int) + 1)] w fun e w' => FrPost ks L f i hi w e w' := by
  have HH := hide h
  have HK := hide hk
  have hll := hk.ll
  have HF := hide hf
  have HKD := hide hkd
  obtain ⟨xc, cc, rfl⟩ := RdG.sl h.rc
  clear h hk hf hkd
  go_enter Tryz.func180, Tryz.ntmps180
  go_upto_region 1 with fail
  have C0 := hide (K1.start w #[.int .i64 0, .int .i64 f.num, .int .i64 (f.frm.kind : Int), .int .i64 f.frm.num, .int .i64 (f.to.kind : Int), .int .i64 f.to.num] 221)
  generalize w.alloc (.cells #[.int .i64 0, .int .i64 f.num, .int .i64 (f.frm.kind : Int), .int .i64 f.frm.num, .int .i64 (f.to.kind : Int), .int .i64 f.to.num] 221) = w0 at *
  have k0 : w0.cell? ⟨w.heap.size, 0, none⟩ = some (.int .i64 0) := cell_of_heap C0.out.a 0
  have H1 := hide (HH.out.below C0.out.bl)
  have q1 := H1.out.c1
  have HS := hide (Pv.frame_all (ks := ks) (f := f) (x := L[i]) (i := (i : Int) + 1) (l := L) HKD.out)
  go_wp2
  go_quiet (fail)
  go_wp2
  go_ret2
  exact ⟨below_drewM C0.out.bl _, 1, L.length, rfl, fun _ => ⟨by omega, by omega⟩, HS.out⟩
set_option maxRecDepth 100000 in
set_option maxHeartbeats 1000000 in
theorem lframe_peers {w : World} {g o : Nat} {vk vc : Value} {ks : List (Nat × Bool)} {L : List Pv.R3} (h : LnAt w g o vk vc ks L) (hk : LnOk ks L) (f : Pq.Frame) (hf : FrameOk f) (hkd : f.kind = 1) (i : Nat) (hi : i < L.length) :
    Calls Tryz.prog 180 #[.pointer (some ⟨g, o, none⟩), .agg #[.int .i64 1, .int .i64 f.num, .int .i64 (f.frm.kind : Int), .int .i64 f.frm.num, .int .i64 (f.to.kind : Int), .int .i64 f.to.num], .int .i64 ((i : Int) + 1)] w fun e w' => FrPost ks L f i hi w e w' := by
  have HH := hide h
  have HK := hide hk
  have hll := hk.ll
  have HF := hide hf
  have HKD := hide hkd
  obtain ⟨xc, cc, rfl⟩ := RdG.sl h.rc
  clear h hk hf hkd
  go_enter Tryz.func180, Tryz.ntmps180
  go_upto_region 1 with fail
  have C0 := hide (K1.start w #[.int .i64 1, .int .i64 f.num, .int .i64 (f.frm.kind : Int), .int .i64 f.frm.num, .int .i64 (f.to.kind : Int), .int .i64 f.to.num] 221)
  generalize w.alloc (.cells #[.int .i64 1, .int .i64 f.num, .int .i64 (f.frm.kind : Int), .int .i64 f.frm.num, .int .i64 (f.to.kind : Int), .int .i64 f.to.num] 221) = w0 at *
  have k0 : w0.cell? ⟨w.heap.size, 0, none⟩ = some (.int .i64 1) := cell_of_heap C0.out.a 0
  have H1 := hide (HH.out.below C0.out.bl)
  go_wp2_with fail
  refine (llast_any H1.out HK.out i hi).mono ?_
  rintro e w3 ⟨e3, b, hb1, hb2, hb3, hb4, rfl⟩
  have HS := hide (Pv.frame_peers (i' := (i : Int) + 1) HK.out.srt HKD.out hi hb1 hb2 hb3 hb4)
  have C3 := hide (C0.out.below e3)
  clear e3 hb3 hb4 k0
  go_wp2
  go_ret2
  exact ⟨C3.out.bl, 1, b, rfl, fun _ => ⟨by omega, by omega⟩, HS.out⟩
set_option maxRecDepth 100000 in
set_option maxHeartbeats 1000000 in
theorem lframe_near {w : World} {g o : Nat} {vk vc : Value} {ks : List (Nat × Bool)} {L : List Pv.R3} (h : LnAt w g o vk vc ks L) (hk : LnOk ks L) (f : Pq.Frame) (hf : FrameOk f) (hkd : f.kind = 2) (i : Nat) (hi : i < L.length) :
    Calls Tryz.prog 180 #[.pointer (some ⟨g, o, none⟩), .agg #[.int .i64 2, .int .i64 f.num, .int .i64 (f.frm.kind : Int), .int .i64 f.frm.num, .int .i64 (f.to.kind : Int), .int .i64 f.to.num], .int .i64 ((i : Int) + 1)] w fun e w' => FrPost ks L f i hi w e w' := by
  have HH := hide h
  have HK := hide hk
  have hll := hk.ll
  have HF := hide hf
  have HKD := hide hkd
  obtain ⟨xc, cc, rfl⟩ := RdG.sl h.rc
  clear h hk hf hkd
  go_enter Tryz.func180, Tryz.ntmps180
  go_upto_region 1 with fail
  have C0 := hide (K1.start w #[.int .i64 2, .int .i64 f.num, .int .i64 (f.frm.kind : Int), .int .i64 f.frm.num, .int .i64 (f.to.kind : Int), .int .i64 f.to.num] 221)
  generalize w.alloc (.cells #[.int .i64 2, .int .i64 f.num, .int .i64 (f.frm.kind : Int), .int .i64 f.frm.num, .int .i64 (f.to.kind : Int), .int .i64 f.to.num] 221) = w0 at *
  have k0 : w0.cell? ⟨w.heap.size, 0, none⟩ = some (.int .i64 2) := cell_of_heap C0.out.a 0
  have H1 := hide (HH.out.below C0.out.bl)
  have k1 : w0.cell? ⟨w.heap.size, 1, none⟩ = some (.int .i64 f.num) := cell_of_heap C0.out.a 1
  have n0 := HF.out.n0
  have n1 := HF.out.n1
  go_wp2_with fail
  refine (lnear_any H1.out HK.out i hi f.num (by omega) (by omega)).mono ?_
  rintro e w3 ⟨e3, a, b, h1, h2, h3, h4, h5, h6, h7, rfl⟩
  have HS := hide (Pv.frame_near (i' := (i : Int) + 1) HK.out.srt HK.out.k0 HKD.out hi h1 h2 h3 n0 h4 h5 h6 h7)
  have C3 := hide (C0.out.below e3)
  clear e3 h4 h5 h6 h7 k0 k1
  go_wp2
  go_ret2
  refine ⟨C3.out.bl, (a : Int) + 1, b, rfl, fun _ => ⟨by omega, by omega⟩, HS.out.trans ?_⟩
  unfold Pv.segI
  rw [show ((a : Int) + 1).toNat = a + 1 by omega, show ((b : Int)).toNat = b by omega]
set_option maxRecDepth 100000 in
set_option maxHeartbeats 1000000 in
theorem lframe_edges {w : World} {g o : Nat} {vk vc : Value} {ks : List (Nat × Bool)} {L : List Pv.R3} (h : LnAt w g o vk vc ks L) (hk : LnOk ks L) (f : Pq.Frame) (hf : FrameOk f) (hkd : f.kind = 3) (i : Nat) (hi : i < L.length) :
    Calls Tryz.prog 180 #[.pointer (some ⟨g, o, none⟩), .agg #[.int .i64 3, .int .i64 f.num, .int .i64 (f.frm.kind : Int), .int .i64 f.frm.num, .int .i64 (f.to.kind : Int), .int .i64 f.to.num], .int .i64 ((i : Int) + 1)] w fun e w' => FrPost ks L f i hi w e w' := by
  have HH := hide h
  have HK := hide hk
  have hll := hk.ll
  have HF := hide hf
  have HKD := hide hkd
  obtain ⟨xc, cc, rfl⟩ := RdG.sl h.rc
  clear h hk hf hkd
  go_enter Tryz.func180, Tryz.ntmps180
  go_upto_region 1 with fail
  have C0 := hide (K1.start w #[.int .i64 3, .int .i64 f.num, .int .i64 (f.frm.kind : Int), .int .i64 f.frm.num, .int .i64 (f.to.kind : Int), .int .i64 f.to.num] 221)
  generalize w.alloc (.cells #[.int .i64 3, .int .i64 f.num, .int .i64 (f.frm.kind : Int), .int .i64 f.frm.num, .int .i64 (f.to.kind : Int), .int .i64 f.to.num] 221) = w0 at *
  have k0 : w0.cell? ⟨w.heap.size, 0, none⟩ = some (.int .i64 3) := cell_of_heap C0.out.a 0
  have H1 := hide (HH.out.below C0.out.bl)
  have k2 : w0.cell? ⟨w.heap.size, 2, none⟩ = some (.int .i64 (f.frm.kind : Int)) := cell_of_heap C0.out.a 2
  have k3 : w0.cell? ⟨w.heap.size, 3, none⟩ = some (.int .i64 f.frm.num) := cell_of_heap C0.out.a 3
  have HS := hide (Pv.frame_edges (ks := ks) (f := f) (x := L[i]) (i := (i : Int) + 1) (l := L) (by rw [HKD.out]; exact Nat.le_refl _))
  have HB1 := hide (edgeP_bd HF.out.frm L.length ((i : Int) + 1) (by omega) (by omega) (by omega) (by omega))
  have HB2 := hide (edgeP_bd HF.out.upto L.length ((i : Int) + 1) (by omega) (by omega) (by omega) (by omega))
  go_wp2_with fail
  refine (ledge_any H1.out.c1 f.frm HF.out.frm.kind HF.out.frm.n0 HF.out.frm.n1 _ (by omega) (by omega)).mono ?_
  rintro e w3 ⟨rfl, e3⟩
  have C3 := hide (C0.out.below e3)
  have H3 := hide (H1.out.below e3)
  clear e3 k0 k2 k3
  generalize Pv.edgeP f.frm L.length ((i : Int) + 1) = x at *
  have k4 : w3.cell? ⟨w.heap.size, 4, none⟩ = some (.int .i64 (f.to.kind : Int)) := cell_of_heap C3.out.a 4
  have k5 : w3.cell? ⟨w.heap.size, 5, none⟩ = some (.int .i64 f.to.num) := cell_of_heap C3.out.a 5
  go_wp2_with fail
  refine (ledge_any H3.out.c1 f.to HF.out.upto.kind HF.out.upto.n0 HF.out.upto.n1 _ (by omega) (by omega)).mono ?_
  rintro e w4 ⟨rfl, e4⟩
  have C4 := hide (C3.out.below e4)
  have H4 := hide (H3.out.below e4)
  clear e4 k4 k5
  generalize Pv.edgeP f.to L.length ((i : Int) + 1) = y at *
  go_wp2_with fail
  refine (lcut_any H4.out.c1 x y).mono ?_
  rintro e w5 ⟨rfl, rfl⟩
  have HA := hide (cutA_bd x HB1.out.1 HB1.out.2)
  have HBB := hide (cutB_bd y L.length)
  go_wp2
  go_ret2
  exact ⟨C4.out.bl, _, _, rfl, fun _ => ⟨HA.out, HBB.out⟩, HS.out⟩
theorem lframe_any {w : World} {g o : Nat} {vk vc : Value} {ks : List (Nat × Bool)} {L : List Pv.R3} (h : LnAt w g o vk vc ks L) (hk : LnOk ks L) (f : Pq.Frame) (hf : FrameOk f) (i : Nat) (hi : i < L.length) :
    Calls Tryz.prog 180 #[.pointer (some ⟨g, o, none⟩), frval f, .int .i64 ((i : Int) + 1)] w fun e w' => FrPost ks L f i hi w e w' := by
  have h4 := hf.kind
  obtain ⟨k, hkk⟩ : ∃ k, f.kind = k := ⟨_, rfl⟩
  unfold frval
  rw [hkk] at h4 ⊢
  match k, h4 with
  | 0, _ => exact lframe_all h hk f hf hkk i hi
  | 1, _ => exact lframe_peers h hk f hf hkk i hi
  | 2, _ => exact lframe_near h hk f hf hkk i hi
  | 3, _ => exact lframe_edges h hk f hf hkk i hi
set_option maxRecDepth 100000 in
set_option maxHeartbeats 1000000 in
theorem lvalue_number {w : World} {g o : Nat} {vk vc : Value} {ks : List (Nat × Bool)} {L : List Pv.R3} (h : LnAt w g o vk vc ks L) (hk : LnOk ks L) (f : Pq.Fn) (hf : FnOk f) (hkd : f.kind = 0) (i : Nat) (hi : i < L.length) :
    Calls Tryz.prog 137 #[.pointer (some ⟨g, o, none⟩), .agg #[.int .i64 0, .int .i64 (f.col : Int), .int .i64 f.num, .int .i64 (f.frame.kind : Int), .int .i64 f.frame.num, .int .i64 (f.frame.frm.kind : Int), .int .i64 f.frame.frm.num, .int .i64 (f.frame.to.kind : Int), .int .i64 f.frame.to.num], .int .i64 ((i : Int) + 1)] w fun e w' => e = .returned (vv (Pv.valR ks L f (i + 1))) ∧ Below w.heap.size w w' := by
  have HH := hide h
  have HK := hide hk
  have hll := hk.ll
  have HF := hide hf
  have HKD := hide hkd
  obtain ⟨xc, cc, rfl⟩ := RdG.sl h.rc
  clear h hk hf
  go_enter Tryz.func137, Tryz.ntmps137
  go_upto_region 1 with fail
  have C0 := hide (K2.start w #[.int .i64 0, .int .i64 (f.col : Int), .int .i64 f.num, .int .i64 (f.frame.kind : Int), .int .i64 f.frame.num, .int .i64 (f.frame.frm.kind : Int), .int .i64 f.frame.frm.num, .int .i64 (f.frame.to.kind : Int), .int .i64 f.frame.to.num] 223 #[.bool false, .int .i64 0] 52)
  generalize ((w.alloc (.cells #[.int .i64 0, .int .i64 (f.col : Int), .int .i64 f.num, .int .i64 (f.frame.kind : Int), .int .i64 f.frame.num, .int .i64 (f.frame.frm.kind : Int), .int .i64 f.frame.frm.num, .int .i64 (f.frame.to.kind : Int), .int .i64 f.frame.to.num] 223)).alloc (.cells #[.bool false, .int .i64 0] 52)) = w0 at *
  have k0 : w0.cell? ⟨w.heap.size, 0, none⟩ = some (.int .i64 0) := cell_of_heap C0.out.a 0
  have k1 : w0.cell? ⟨w.heap.size, 1, none⟩ = some (.int .i64 (f.col : Int)) := cell_of_heap C0.out.a 1
  have k2 : w0.cell? ⟨w.heap.size, 2, none⟩ = some (.int .i64 f.num) := cell_of_heap C0.out.a 2
  have H1 := hide (HH.out.below C0.out.bl)
  have HV := hide (Pv.valR_number (ks := ks) (l := L) (f := f) hi HKD.out)
  clear k1 k2
  go_wp2_with fail
  refine (lsome_any _ _).mono ?_
  rintro e w4 ⟨rfl, e4⟩
  have C4 := hide (C0.out.below e4)
  clear e4
  clear k0
  have z0 : w4.cell? ⟨w.heap.size + 1, 0, none⟩ = some (.bool false) := cell_of_heap C4.out.b 0
  have z1 : w4.cell? ⟨w.heap.size + 1, 1, none⟩ = some (.int .i64 0) := cell_of_heap C4.out.b 1
  have f0 := free_of_heap C4.out.b 0
  have f1 := free_of_heap C4.out.b 1
  obtain ⟨l0, l1⟩ := set2 C4.out.b (.bool true) (.int .i64 ((i : Int) + 1))
  go_wp2
  refine bodyPost_ret (v := .agg #[.bool true, .int .i64 ((i : Int) + 1)]) (by simp [results, Tryz.results137, go_sem, l0, l1]) rfl ⟨by rw [HV.out]; rfl, ?_⟩
  exact (C4.out.bl.setCell (p := ⟨w.heap.size + 1, 0, none⟩) (by simp) _).setCell (p := ⟨w.heap.size + 1, 1, none⟩) (by simp) _
set_option maxRecDepth 100000 in
set_option maxHeartbeats 1000000 in
theorem lvalue_rank {w : World} {g o : Nat} {vk vc : Value} {ks : List (Nat × Bool)} {L : List Pv.R3} (h : LnAt w g o vk vc ks L) (hk : LnOk ks L) (f : Pq.Fn) (hf : FnOk f) (hkd : f.kind = 1) (i : Nat) (hi : i < L.length) :
    Calls Tryz.prog 137 #[.pointer (some ⟨g, o, none⟩), .agg #[.int .i64 1, .int .i64 (f.col : Int), .int .i64 f.num, .int .i64 (f.frame.kind : Int), .int .i64 f.frame.num, .int .i64 (f.frame.frm.kind : Int), .int .i64 f.frame.frm.num, .int .i64 (f.frame.to.kind : Int), .int .i64 f.frame.to.num], .int .i64 ((i : Int) + 1)] w fun e w' => e = .returned (vv (Pv.valR ks L f (i + 1))) ∧ Below w.heap.size w w' := by
  have HH := hide h
  have HK := hide hk
  have hll := hk.ll
  have HF := hide hf
  have HKD := hide hkd
  obtain ⟨xc, cc, rfl⟩ := RdG.sl h.rc
  clear h hk hf
  go_enter Tryz.func137, Tryz.ntmps137
  go_upto_region 1 with fail
  have C0 := hide (K2.start w #[.int .i64 1, .int .i64 (f.col : Int), .int .i64 f.num, .int .i64 (f.frame.kind : Int), .int .i64 f.frame.num, .int .i64 (f.frame.frm.kind : Int), .int .i64 f.frame.frm.num, .int .i64 (f.frame.to.kind : Int), .int .i64 f.frame.to.num] 223 #[.bool false, .int .i64 0] 52)
  generalize ((w.alloc (.cells #[.int .i64 1, .int .i64 (f.col : Int), .int .i64 f.num, .int .i64 (f.frame.kind : Int), .int .i64 f.frame.num, .int .i64 (f.frame.frm.kind : Int), .int .i64 f.frame.frm.num, .int .i64 (f.frame.to.kind : Int), .int .i64 f.frame.to.num] 223)).alloc (.cells #[.bool false, .int .i64 0] 52)) = w0 at *
  have k0 : w0.cell? ⟨w.heap.size, 0, none⟩ = some (.int .i64 1) := cell_of_heap C0.out.a 0
  have k1 : w0.cell? ⟨w.heap.size, 1, none⟩ = some (.int .i64 (f.col : Int)) := cell_of_heap C0.out.a 1
  have k2 : w0.cell? ⟨w.heap.size, 2, none⟩ = some (.int .i64 f.num) := cell_of_heap C0.out.a 2
  have H1 := hide (HH.out.below C0.out.bl)
  clear k1 k2
  go_wp2_with fail
  refine (lfirst_any H1.out HK.out i hi).mono ?_
  rintro e w3 ⟨e3, a, h1, h2, h3, rfl⟩
  have HV := hide (Pv.valR_rank HK.out.srt hi HKD.out h1 h2 h3)
  have C3 := hide (C0.out.below e3)
  clear e3 h2 h3 k0
  go_wp2_with fail
  refine (lsome_any _ _).mono ?_
  rintro e w4 ⟨rfl, e4⟩
  have C4 := hide (C3.out.below e4)
  clear e4
  have z0 : w4.cell? ⟨w.heap.size + 1, 0, none⟩ = some (.bool false) := cell_of_heap C4.out.b 0
  have z1 : w4.cell? ⟨w.heap.size + 1, 1, none⟩ = some (.int .i64 0) := cell_of_heap C4.out.b 1
  have f0 := free_of_heap C4.out.b 0
  have f1 := free_of_heap C4.out.b 1
  obtain ⟨l0, l1⟩ := set2 C4.out.b (.bool true) (.int .i64 ((a : Int) + 1))
  go_wp2
  refine bodyPost_ret (v := .agg #[.bool true, .int .i64 ((a : Int) + 1)]) (by simp [results, Tryz.results137, go_sem, l0, l1]) rfl ⟨by rw [HV.out]; rfl, ?_⟩
  exact (C4.out.bl.setCell (p := ⟨w.heap.size + 1, 0, none⟩) (by simp) _).setCell (p := ⟨w.heap.size + 1, 1, none⟩) (by simp) _
set_option maxRecDepth 100000 in
set_option maxHeartbeats 1000000 in
theorem lvalue_dense {w : World} {g o : Nat} {vk vc : Value} {ks : List (Nat × Bool)} {L : List Pv.R3} (h : LnAt w g o vk vc ks L) (hk : LnOk ks L) (f : Pq.Fn) (hf : FnOk f) (hkd : f.kind = 2) (i : Nat) (hi : i < L.length) :
    Calls Tryz.prog 137 #[.pointer (some ⟨g, o, none⟩), .agg #[.int .i64 2, .int .i64 (f.col : Int), .int .i64 f.num, .int .i64 (f.frame.kind : Int), .int .i64 f.frame.num, .int .i64 (f.frame.frm.kind : Int), .int .i64 f.frame.frm.num, .int .i64 (f.frame.to.kind : Int), .int .i64 f.frame.to.num], .int .i64 ((i : Int) + 1)] w fun e w' => e = .returned (vv (Pv.valR ks L f (i + 1))) ∧ Below w.heap.size w w' := by
  have HH := hide h
  have HK := hide hk
  have hll := hk.ll
  have HF := hide hf
  have HKD := hide hkd
  obtain ⟨xc, cc, rfl⟩ := RdG.sl h.rc
  clear h hk hf
  go_enter Tryz.func137, Tryz.ntmps137
  go_upto_region 1 with fail
  have C0 := hide (K2.start w #[.int .i64 2, .int .i64 (f.col : Int), .int .i64 f.num, .int .i64 (f.frame.kind : Int), .int .i64 f.frame.num, .int .i64 (f.frame.frm.kind : Int), .int .i64 f.frame.frm.num, .int .i64 (f.frame.to.kind : Int), .int .i64 f.frame.to.num] 223 #[.bool false, .int .i64 0] 52)
  generalize ((w.alloc (.cells #[.int .i64 2, .int .i64 (f.col : Int), .int .i64 f.num, .int .i64 (f.frame.kind : Int), .int .i64 f.frame.num, .int .i64 (f.frame.frm.kind : Int), .int .i64 f.frame.frm.num, .int .i64 (f.frame.to.kind : Int), .int .i64 f.frame.to.num] 223)).alloc (.cells #[.bool false, .int .i64 0] 52)) = w0 at *
  have k0 : w0.cell? ⟨w.heap.size, 0, none⟩ = some (.int .i64 2) := cell_of_heap C0.out.a 0
  have k1 : w0.cell? ⟨w.heap.size, 1, none⟩ = some (.int .i64 (f.col : Int)) := cell_of_heap C0.out.a 1
  have k2 : w0.cell? ⟨w.heap.size, 2, none⟩ = some (.int .i64 f.num) := cell_of_heap C0.out.a 2
  have H1 := hide (HH.out.below C0.out.bl)
  clear k1 k2
  have HV := hide (Pv.valR_dense HK.out.srt hi HKD.out)
  go_wp2_with fail
  refine (lgroups_any H1.out HK.out i hi).mono ?_
  rintro e w3 ⟨e3, rfl⟩
  have C3 := hide (C0.out.below e3)
  clear e3 k0
  generalize Pv.groupsN ks L i = s at *
  go_wp2_with fail
  refine (lsome_any _ _).mono ?_
  rintro e w4 ⟨rfl, e4⟩
  have C4 := hide (C3.out.below e4)
  clear e4
  have z0 : w4.cell? ⟨w.heap.size + 1, 0, none⟩ = some (.bool false) := cell_of_heap C4.out.b 0
  have z1 : w4.cell? ⟨w.heap.size + 1, 1, none⟩ = some (.int .i64 0) := cell_of_heap C4.out.b 1
  have f0 := free_of_heap C4.out.b 0
  have f1 := free_of_heap C4.out.b 1
  obtain ⟨l0, l1⟩ := set2 C4.out.b (.bool true) (.int .i64 s)
  go_wp2
  refine bodyPost_ret (v := .agg #[.bool true, .int .i64 s]) (by simp [results, Tryz.results137, go_sem, l0, l1]) rfl ⟨by rw [HV.out]; rfl, ?_⟩
  exact (C4.out.bl.setCell (p := ⟨w.heap.size + 1, 0, none⟩) (by simp) _).setCell (p := ⟨w.heap.size + 1, 1, none⟩) (by simp) _
set_option maxRecDepth 100000 in
set_option maxHeartbeats 1000000 in
theorem lvalue_tile {w : World} {g o : Nat} {vk vc : Value} {ks : List (Nat × Bool)} {L : List Pv.R3} (h : LnAt w g o vk vc ks L) (hk : LnOk ks L) (f : Pq.Fn) (hf : FnOk f) (hkd : f.kind = 3) (i : Nat) (hi : i < L.length) :
    Calls Tryz.prog 137 #[.pointer (some ⟨g, o, none⟩), .agg #[.int .i64 3, .int .i64 (f.col : Int), .int .i64 f.num, .int .i64 (f.frame.kind : Int), .int .i64 f.frame.num, .int .i64 (f.frame.frm.kind : Int), .int .i64 f.frame.frm.num, .int .i64 (f.frame.to.kind : Int), .int .i64 f.frame.to.num], .int .i64 ((i : Int) + 1)] w fun e w' => e = .returned (vv (Pv.valR ks L f (i + 1))) ∧ Below w.heap.size w w' := by
  have HH := hide h
  have HK := hide hk
  have hll := hk.ll
  have HF := hide hf
  have HKD := hide hkd
  obtain ⟨xc, cc, rfl⟩ := RdG.sl h.rc
  clear h hk hf
  go_enter Tryz.func137, Tryz.ntmps137
  go_upto_region 1 with fail
  have C0 := hide (K2.start w #[.int .i64 3, .int .i64 (f.col : Int), .int .i64 f.num, .int .i64 (f.frame.kind : Int), .int .i64 f.frame.num, .int .i64 (f.frame.frm.kind : Int), .int .i64 f.frame.frm.num, .int .i64 (f.frame.to.kind : Int), .int .i64 f.frame.to.num] 223 #[.bool false, .int .i64 0] 52)
  generalize ((w.alloc (.cells #[.int .i64 3, .int .i64 (f.col : Int), .int .i64 f.num, .int .i64 (f.frame.kind : Int), .int .i64 f.frame.num, .int .i64 (f.frame.frm.kind : Int), .int .i64 f.frame.frm.num, .int .i64 (f.frame.to.kind : Int), .int .i64 f.frame.to.num] 223)).alloc (.cells #[.bool false, .int .i64 0] 52)) = w0 at *
  have k0 : w0.cell? ⟨w.heap.size, 0, none⟩ = some (.int .i64 3) := cell_of_heap C0.out.a 0
  have k1 : w0.cell? ⟨w.heap.size, 1, none⟩ = some (.int .i64 (f.col : Int)) := cell_of_heap C0.out.a 1
  have k2 : w0.cell? ⟨w.heap.size, 2, none⟩ = some (.int .i64 f.num) := cell_of_heap C0.out.a 2
  have H1 := hide (HH.out.below C0.out.bl)
  clear k1
  have hn1 := HF.out.tile HKD.out
  have hn2 := HF.out.n1
  have HV := hide (Pv.valR_tile (ks := ks) (l := L) (f := f) hi HKD.out hn1)
  have q1 := H1.out.c1
  go_upto_region 9 with fail
  go_still_tail 8, (by kernel_rfl)
  go_wp2_with fail
  refine (ltile_any _ _ _ _ (by omega) (by omega) (by omega) (by omega) (by omega) (by omega)).mono ?_
  rintro e w3 ⟨rfl, rfl⟩
  have C3 : Hid (K2 w w0.drew #[.int .i64 3, .int .i64 (f.col : Int), .int .i64 f.num, .int .i64 (f.frame.kind : Int), .int .i64 f.frame.num, .int .i64 (f.frame.frm.kind : Int), .int .i64 f.frame.frm.num, .int .i64 (f.frame.to.kind : Int), .int .i64 f.frame.to.num] 223 #[.bool false, .int .i64 0] 52) := C0.out.below (below_drew0 _)
  clear k0 k2 q1
  generalize w0.drew = w3 at *
  generalize Pv.tileP ((i : Int) + 1) (L.length : Int) f.num = s at *
  go_wp2_with fail
  refine (lsome_any _ _).mono ?_
  rintro e w4 ⟨rfl, e4⟩
  have C4 := hide (C3.out.below e4)
  clear e4
  have z0 : w4.cell? ⟨w.heap.size + 1, 0, none⟩ = some (.bool false) := cell_of_heap C4.out.b 0
  have z1 : w4.cell? ⟨w.heap.size + 1, 1, none⟩ = some (.int .i64 0) := cell_of_heap C4.out.b 1
  have f0 := free_of_heap C4.out.b 0
  have f1 := free_of_heap C4.out.b 1
  obtain ⟨l0, l1⟩ := set2 C4.out.b (.bool true) (.int .i64 s)
  go_wp2
  refine bodyPost_ret (v := .agg #[.bool true, .int .i64 s]) (by simp [results, Tryz.results137, go_sem, l0, l1]) rfl ⟨by rw [HV.out]; rfl, ?_⟩
  exact (C4.out.bl.setCell (p := ⟨w.heap.size + 1, 0, none⟩) (by simp) _).setCell (p := ⟨w.heap.size + 1, 1, none⟩) (by simp) _
set_option maxRecDepth 100000 in
set_option maxHeartbeats 1000000 in
theorem lvalue_lag {w : World} {g o : Nat} {vk vc : Value} {ks : List (Nat × Bool)} {L : List Pv.R3} (h : LnAt w g o vk vc ks L) (hk : LnOk ks L) (f : Pq.Fn) (hf : FnOk f) (hkd : f.kind = 4) (i : Nat) (hi : i < L.length) :
    Calls Tryz.prog 137 #[.pointer (some ⟨g, o, none⟩), .agg #[.int .i64 4, .int .i64 (f.col : Int), .int .i64 f.num, .int .i64 (f.frame.kind : Int), .int .i64 f.frame.num, .int .i64 (f.frame.frm.kind : Int), .int .i64 f.frame.frm.num, .int .i64 (f.frame.to.kind : Int), .int .i64 f.frame.to.num], .int .i64 ((i : Int) + 1)] w fun e w' => e = .returned (vv (Pv.valR ks L f (i + 1))) ∧ Below w.heap.size w w' := by
  have HH := hide h
  have HK := hide hk
  have hll := hk.ll
  have HF := hide hf
  have HKD := hide hkd
  obtain ⟨xc, cc, rfl⟩ := RdG.sl h.rc
  clear h hk hf
  go_enter Tryz.func137, Tryz.ntmps137
  go_upto_region 1 with fail
  have C0 := hide (K2.start w #[.int .i64 4, .int .i64 (f.col : Int), .int .i64 f.num, .int .i64 (f.frame.kind : Int), .int .i64 f.frame.num, .int .i64 (f.frame.frm.kind : Int), .int .i64 f.frame.frm.num, .int .i64 (f.frame.to.kind : Int), .int .i64 f.frame.to.num] 223 #[.bool false, .int .i64 0] 52)
  generalize ((w.alloc (.cells #[.int .i64 4, .int .i64 (f.col : Int), .int .i64 f.num, .int .i64 (f.frame.kind : Int), .int .i64 f.frame.num, .int .i64 (f.frame.frm.kind : Int), .int .i64 f.frame.frm.num, .int .i64 (f.frame.to.kind : Int), .int .i64 f.frame.to.num] 223)).alloc (.cells #[.bool false, .int .i64 0] 52)) = w0 at *
  have k0 : w0.cell? ⟨w.heap.size, 0, none⟩ = some (.int .i64 4) := cell_of_heap C0.out.a 0
  have k1 : w0.cell? ⟨w.heap.size, 1, none⟩ = some (.int .i64 (f.col : Int)) := cell_of_heap C0.out.a 1
  have k2 : w0.cell? ⟨w.heap.size, 2, none⟩ = some (.int .i64 f.num) := cell_of_heap C0.out.a 2
  have H1 := hide (HH.out.below C0.out.bl)
  have hn1 := HF.out.n0
  have hn2 := HF.out.n1
  have HV := hide (Pv.valR_lag (ks := ks) (l := L) (f := f) hi HKD.out)
  go_wp2_with fail
  refine (lcol_any H1.out HK.out.ll HF.out.col ((i : Int) + 1 - f.num) (by omega) (by omega)).mono ?_
  rintro e w4 ⟨rfl, e4⟩
  have C4 := hide (C0.out.below e4)
  clear e4 k0 k1 k2
  rw [← HV.out]
  clear HV
  obtain ⟨vr, hvr⟩ : ∃ x, Pv.valR ks L f (i + 1) = x := ⟨_, rfl⟩
  rw [hvr]
  have HVR := hide hvr
  clear hvr
  cases vr with
  | none =>
    simp only [vv]
    have z0 : w4.cell? ⟨w.heap.size + 1, 0, none⟩ = some (.bool false) := cell_of_heap C4.out.b 0
    have z1 : w4.cell? ⟨w.heap.size + 1, 1, none⟩ = some (.int .i64 0) := cell_of_heap C4.out.b 1
    have f0 := free_of_heap C4.out.b 0
    have f1 := free_of_heap C4.out.b 1
    obtain ⟨l0, l1⟩ := set2 C4.out.b (.bool false) (.int .i64 0)
    go_wp2
    refine bodyPost_ret (v := .agg #[.bool false, .int .i64 0]) (by simp [results, Tryz.results137, go_sem, l0, l1]) rfl ⟨by rw [HVR.out]; rfl, ?_⟩
    exact (C4.out.bl.setCell (p := ⟨w.heap.size + 1, 0, none⟩) (by simp) _).setCell (p := ⟨w.heap.size + 1, 1, none⟩) (by simp) _
  | some s =>
    simp only [vv]
    have z0 : w4.cell? ⟨w.heap.size + 1, 0, none⟩ = some (.bool false) := cell_of_heap C4.out.b 0
    have z1 : w4.cell? ⟨w.heap.size + 1, 1, none⟩ = some (.int .i64 0) := cell_of_heap C4.out.b 1
    have f0 := free_of_heap C4.out.b 0
    have f1 := free_of_heap C4.out.b 1
    obtain ⟨l0, l1⟩ := set2 C4.out.b (.bool true) (.int .i64 s)
    go_wp2
    refine bodyPost_ret (v := .agg #[.bool true, .int .i64 s]) (by simp [results, Tryz.results137, go_sem, l0, l1]) rfl ⟨by rw [HVR.out]; rfl, ?_⟩
    exact (C4.out.bl.setCell (p := ⟨w.heap.size + 1, 0, none⟩) (by simp) _).setCell (p := ⟨w.heap.size + 1, 1, none⟩) (by simp) _
set_option maxRecDepth 100000 in
set_option maxHeartbeats 1000000 in
theorem lvalue_lead {w : World} {g o : Nat} {vk vc : Value} {ks : List (Nat × Bool)} {L : List Pv.R3} (h : LnAt w g o vk vc ks L) (hk : LnOk ks L) (f : Pq.Fn) (hf : FnOk f) (hkd : f.kind = 5) (i : Nat) (hi : i < L.length) :
    Calls Tryz.prog 137 #[.pointer (some ⟨g, o, none⟩), .agg #[.int .i64 5, .int .i64 (f.col : Int), .int .i64 f.num, .int .i64 (f.frame.kind : Int), .int .i64 f.frame.num, .int .i64 (f.frame.frm.kind : Int), .int .i64 f.frame.frm.num, .int .i64 (f.frame.to.kind : Int), .int .i64 f.frame.to.num], .int .i64 ((i : Int) + 1)] w fun e w' => e = .returned (vv (Pv.valR ks L f (i + 1))) ∧ Below w.heap.size w w' := by
  have HH := hide h
  have HK := hide hk
  have hll := hk.ll
  have HF := hide hf
  have HKD := hide hkd
  obtain ⟨xc, cc, rfl⟩ := RdG.sl h.rc
  clear h hk hf
  go_enter Tryz.func137, Tryz.ntmps137
  go_upto_region 1 with fail
  have C0 := hide (K2.start w #[.int .i64 5, .int .i64 (f.col : Int), .int .i64 f.num, .int .i64 (f.frame.kind : Int), .int .i64 f.frame.num, .int .i64 (f.frame.frm.kind : Int), .int .i64 f.frame.frm.num, .int .i64 (f.frame.to.kind : Int), .int .i64 f.frame.to.num] 223 #[.bool false, .int .i64 0] 52)
  generalize ((w.alloc (.cells #[.int .i64 5, .int .i64 (f.col : Int), .int .i64 f.num, .int .i64 (f.frame.kind : Int), .int .i64 f.frame.num, .int .i64 (f.frame.frm.kind : Int), .int .i64 f.frame.frm.num, .int .i64 (f.frame.to.kind : Int), .int .i64 f.frame.to.num] 223)).alloc (.cells #[.bool false, .int .i64 0] 52)) = w0 at *
  have k0 : w0.cell? ⟨w.heap.size, 0, none⟩ = some (.int .i64 5) := cell_of_heap C0.out.a 0
  have k1 : w0.cell? ⟨w.heap.size, 1, none⟩ = some (.int .i64 (f.col : Int)) := cell_of_heap C0.out.a 1
  have k2 : w0.cell? ⟨w.heap.size, 2, none⟩ = some (.int .i64 f.num) := cell_of_heap C0.out.a 2
  have H1 := hide (HH.out.below C0.out.bl)
  have hn1 := HF.out.n0
  have hn2 := HF.out.n1
  have HV := hide (Pv.valR_lead (ks := ks) (l := L) (f := f) hi HKD.out)
  go_wp2_with fail
  refine (lcol_any H1.out HK.out.ll HF.out.col ((i : Int) + 1 + f.num) (by omega) (by omega)).mono ?_
  rintro e w4 ⟨rfl, e4⟩
  have C4 := hide (C0.out.below e4)
  clear e4 k0 k1 k2
  rw [← HV.out]
  clear HV
  obtain ⟨vr, hvr⟩ : ∃ x, Pv.valR ks L f (i + 1) = x := ⟨_, rfl⟩
  rw [hvr]
  have HVR := hide hvr
  clear hvr
  cases vr with
  | none =>
    simp only [vv]
    have z0 : w4.cell? ⟨w.heap.size + 1, 0, none⟩ = some (.bool false) := cell_of_heap C4.out.b 0
    have z1 : w4.cell? ⟨w.heap.size + 1, 1, none⟩ = some (.int .i64 0) := cell_of_heap C4.out.b 1
    have f0 := free_of_heap C4.out.b 0
    have f1 := free_of_heap C4.out.b 1
    obtain ⟨l0, l1⟩ := set2 C4.out.b (.bool false) (.int .i64 0)
    go_wp2
    refine bodyPost_ret (v := .agg #[.bool false, .int .i64 0]) (by simp [results, Tryz.results137, go_sem, l0, l1]) rfl ⟨by rw [HVR.out]; rfl, ?_⟩
    exact (C4.out.bl.setCell (p := ⟨w.heap.size + 1, 0, none⟩) (by simp) _).setCell (p := ⟨w.heap.size + 1, 1, none⟩) (by simp) _
  | some s =>
    simp only [vv]
    have z0 : w4.cell? ⟨w.heap.size + 1, 0, none⟩ = some (.bool false) := cell_of_heap C4.out.b 0
    have z1 : w4.cell? ⟨w.heap.size + 1, 1, none⟩ = some (.int .i64 0) := cell_of_heap C4.out.b 1
    have f0 := free_of_heap C4.out.b 0
    have f1 := free_of_heap C4.out.b 1
    obtain ⟨l0, l1⟩ := set2 C4.out.b (.bool true) (.int .i64 s)
    go_wp2
    refine bodyPost_ret (v := .agg #[.bool true, .int .i64 s]) (by simp [results, Tryz.results137, go_sem, l0, l1]) rfl ⟨by rw [HVR.out]; rfl, ?_⟩
    exact (C4.out.bl.setCell (p := ⟨w.heap.size + 1, 0, none⟩) (by simp) _).setCell (p := ⟨w.heap.size + 1, 1, none⟩) (by simp) _
set_option maxRecDepth 100000 in
set_option maxHeartbeats 1000000 in
theorem lvalue_over {w : World} {g o : Nat} {vk vc : Value} {ks : List (Nat × Bool)} {L : List Pv.R3} (h : LnAt w g o vk vc ks L) (hk : LnOk ks L) (f : Pq.Fn) (hf : FnOk f) (hkd : 6 ≤ f.kind) (i : Nat) (hi : i < L.length) :
    Calls Tryz.prog 137 #[.pointer (some ⟨g, o, none⟩), .agg #[.int .i64 (f.kind : Int), .int .i64 (f.col : Int), .int .i64 f.num, .int .i64 (f.frame.kind : Int), .int .i64 f.frame.num, .int .i64 (f.frame.frm.kind : Int), .int .i64 f.frame.frm.num, .int .i64 (f.frame.to.kind : Int), .int .i64 f.frame.to.num], .int .i64 ((i : Int) + 1)] w fun e w' => e = .returned (vv (Pv.valR ks L f (i + 1))) ∧ Below w.heap.size w w' := by
  have HH := hide h
  have HK := hide hk
  have hll := hk.ll
  have HF := hide hf
  have HKD := hide hkd
  obtain ⟨xc, cc, rfl⟩ := RdG.sl h.rc
  clear h hk hf
  go_enter Tryz.func137, Tryz.ntmps137
  go_upto_region 1 with fail
  have C0 := hide (K2.start w #[.int .i64 (f.kind : Int), .int .i64 (f.col : Int), .int .i64 f.num, .int .i64 (f.frame.kind : Int), .int .i64 f.frame.num, .int .i64 (f.frame.frm.kind : Int), .int .i64 f.frame.frm.num, .int .i64 (f.frame.to.kind : Int), .int .i64 f.frame.to.num] 223 #[.bool false, .int .i64 0] 52)
  generalize ((w.alloc (.cells #[.int .i64 (f.kind : Int), .int .i64 (f.col : Int), .int .i64 f.num, .int .i64 (f.frame.kind : Int), .int .i64 f.frame.num, .int .i64 (f.frame.frm.kind : Int), .int .i64 f.frame.frm.num, .int .i64 (f.frame.to.kind : Int), .int .i64 f.frame.to.num] 223)).alloc (.cells #[.bool false, .int .i64 0] 52)) = w0 at *
  have k0 : w0.cell? ⟨w.heap.size, 0, none⟩ = some (.int .i64 (f.kind : Int)) := cell_of_heap C0.out.a 0
  have k1 : w0.cell? ⟨w.heap.size, 1, none⟩ = some (.int .i64 (f.col : Int)) := cell_of_heap C0.out.a 1
  have k2 : w0.cell? ⟨w.heap.size, 2, none⟩ = some (.int .i64 f.num) := cell_of_heap C0.out.a 2
  have H1 := hide (HH.out.below C0.out.bl)
  have HV := hide (Pv.valR_over (ks := ks) (l := L) (f := f) hi HKD.out)
  have d0 : ((f.kind : Int) == 0) = false := by simp; omega
  have d1 : ((f.kind : Int) == 1) = false := by simp; omega
  have d2 : ((f.kind : Int) == 2) = false := by simp; omega
  have d3 : ((f.kind : Int) == 3) = false := by simp; omega
  have d4 : ((f.kind : Int) == 4) = false := by simp; omega
  have d5 : ((f.kind : Int) == 5) = false := by simp; omega
  have HCS : ∀ wx, Hid (Below w0.heap.size w0 wx → wx.cell? ⟨w.heap.size, 0, none⟩ = some (.int .i64 (f.kind : Int)) ∧ wx.cell? ⟨w.heap.size, 1, none⟩ = some (.int .i64 (f.col : Int)) ∧ wx.cell? ⟨w.heap.size, 2, none⟩ = some (.int .i64 f.num) ∧ wx.cell? ⟨w.heap.size, 3, none⟩ = some (.int .i64 (f.frame.kind : Int)) ∧ wx.cell? ⟨w.heap.size, 4, none⟩ = some (.int .i64 f.frame.num) ∧ wx.cell? ⟨w.heap.size, 5, none⟩ = some (.int .i64 (f.frame.frm.kind : Int)) ∧ wx.cell? ⟨w.heap.size, 6, none⟩ = some (.int .i64 f.frame.frm.num) ∧ wx.cell? ⟨w.heap.size, 7, none⟩ = some (.int .i64 (f.frame.to.kind : Int)) ∧ wx.cell? ⟨w.heap.size, 8, none⟩ = some (.int .i64 f.frame.to.num)) := fun wx hb => by
    have C1 := C0.out.below hb
    exact ⟨cell_of_heap C1.a 0, cell_of_heap C1.a 1, cell_of_heap C1.a 2, cell_of_heap C1.a 3, cell_of_heap C1.a 4, cell_of_heap C1.a 5, cell_of_heap C1.a 6, cell_of_heap C1.a 7, cell_of_heap C1.a 8⟩
  clear k0 k1 k2
  obtain ⟨k0, k1, k2, k3, k4, k5, k6, k7, k8⟩ := (HCS w0).out (Below.refl _ _)
  go_wp2_with fail
  refine (lframe_any H1.out HK.out f.frame HF.out.frame i hi).mono ?_
  rintro e w3 ⟨e3, x, y, rfl, hxy, hin⟩
  have C3 := hide (C0.out.below e3)
  have H3 := hide (H1.out.below e3)
  clear k0 k1 k2 k3 k4 k5 k6 k7 k8
  obtain ⟨k0, k1, k2, k3, k4, k5, k6, k7, k8⟩ := (HCS w3).out e3
  have HXY := hide hxy
  rw [hin] at HV
  clear e3 hxy hin
  go_wp2_with fail
  refine (lover_any H3.out HK.out f hkd HF.out.kind HF.out.col x y HXY.out).mono ?_
  rintro e w4 ⟨rfl, e4⟩
  have C4 := hide (C3.out.below e4)
  clear e4 k0 k1 k2 k3 k4 k5 k6 k7 k8
  rw [← HV.out]
  clear HV
  obtain ⟨vr, hvr⟩ : ∃ x, Pv.valR ks L f (i + 1) = x := ⟨_, rfl⟩
  rw [hvr]
  have HVR := hide hvr
  clear hvr
  cases vr with
  | none =>
    simp only [vv]
    have z0 : w4.cell? ⟨w.heap.size + 1, 0, none⟩ = some (.bool false) := cell_of_heap C4.out.b 0
    have z1 : w4.cell? ⟨w.heap.size + 1, 1, none⟩ = some (.int .i64 0) := cell_of_heap C4.out.b 1
    have f0 := free_of_heap C4.out.b 0
    have f1 := free_of_heap C4.out.b 1
    obtain ⟨l0, l1⟩ := set2 C4.out.b (.bool false) (.int .i64 0)
    go_wp2
    refine bodyPost_ret (v := .agg #[.bool false, .int .i64 0]) (by simp [results, Tryz.results137, go_sem, l0, l1]) rfl ⟨by rw [HVR.out]; rfl, ?_⟩
    exact (C4.out.bl.setCell (p := ⟨w.heap.size + 1, 0, none⟩) (by simp) _).setCell (p := ⟨w.heap.size + 1, 1, none⟩) (by simp) _
  | some s =>
    simp only [vv]
    have z0 : w4.cell? ⟨w.heap.size + 1, 0, none⟩ = some (.bool false) := cell_of_heap C4.out.b 0
    have z1 : w4.cell? ⟨w.heap.size + 1, 1, none⟩ = some (.int .i64 0) := cell_of_heap C4.out.b 1
    have f0 := free_of_heap C4.out.b 0
    have f1 := free_of_heap C4.out.b 1
    obtain ⟨l0, l1⟩ := set2 C4.out.b (.bool true) (.int .i64 s)
    go_wp2
    refine bodyPost_ret (v := .agg #[.bool true, .int .i64 s]) (by simp [results, Tryz.results137, go_sem, l0, l1]) rfl ⟨by rw [HVR.out]; rfl, ?_⟩
    exact (C4.out.bl.setCell (p := ⟨w.heap.size + 1, 0, none⟩) (by simp) _).setCell (p := ⟨w.heap.size + 1, 1, none⟩) (by simp) _
theorem lvalue_any {w : World} {g o : Nat} {vk vc : Value} {ks : List (Nat × Bool)} {L : List Pv.R3} (h : LnAt w g o vk vc ks L) (hk : LnOk ks L) (f : Pq.Fn) (hf : FnOk f) (i : Nat) (hi : i < L.length) :
    Calls Tryz.prog 137 #[.pointer (some ⟨g, o, none⟩), fval f, .int .i64 ((i : Int) + 1)] w fun e w' => e = .returned (vv (Pv.valR ks L f (i + 1))) ∧ Below w.heap.size w w' := by
  by_cases h6 : 6 ≤ f.kind
  · exact lvalue_over h hk f hf h6 i hi
  · obtain ⟨k, hkk⟩ : ∃ k, f.kind = k := ⟨_, rfl⟩
    unfold fval
    rw [hkk] at h6 ⊢
    match k, h6 with
    | 0, _ => exact lvalue_number h hk f hf hkk i hi
    | 1, _ => exact lvalue_rank h hk f hf hkk i hi
    | 2, _ => exact lvalue_dense h hk f hf hkk i hi
    | 3, _ => exact lvalue_tile h hk f hf hkk i hi
    | 4, _ => exact lvalue_lag h hk f hf hkk i hi
    | 5, _ => exact lvalue_lead h hk f hf hkk i hi
    | n + 6, h6 => omega
end Go.Proofs.YtcoofnhdbejnpaaGreatDoor

