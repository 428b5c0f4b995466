/- Package paneskeep: joined, the walk. -/
import Derived.Test.YtcoofnhdbejnpaaGreatDoorG42
import Derived.Test.YtcoofnhdbejnpaaGreatDoorG06
import Derived.Test.YtcoofnhdbejnpaaGreatDoorG11
namespace Go.Proofs.YtcoofnhdbejnpaaGreatDoor
open Go.RowKit
def JnPost (w : World) (B : Nat) (va : Value) (L : List Pv.Out) (e : Ending) (w' : World) : Prop := ∃ v, e = .returned v ∧ JM w w' B va v L
/-- before the next out row -/
def JO (w wr : World) (B : Nat) (va v : Value) (n : Nat) (a b : List Pv.Out) (i : Nat) : Prop := JM w wr B va v (Pk.joinF a (b.take i)) ∧ JI n (1000000000000 + 1000000 * (i : Int)) (Pk.joinF a (b.take i)) ∧ (Pk.joinF a (b.take i)).length ≤ a.length + i
theorem join_take (a b : List Pv.Out) (i : Nat) (h : i < b.length) : Pk.joinF a (b.take (i + 1)) = Pv.countedF (Pk.joinF a (b.take i)) (Pv.keyO b[i]) b[i].2.2 := by
  unfold Pk.joinF
  rw [List.take_succ_eq_append_getElem h, List.foldl_append]
  rfl
set_option maxRecDepth 100000 in
set_option maxHeartbeats 3000000 in
theorem kjoined_any {w : World} {B : Nat} {va vb : Value} {a b : List Pv.Out} {n : Nat} (ha : OwnO w B va a) (hB : B ≤ w.heap.size) (hb : RdO w vb b) (hne : ∀ g off m c, vb = .slice (some ⟨g, off, none⟩) m c → va.ownBlock ≠ some g) (hj : JI n 1000000000000 a) (hn : n ≤ 1000) (lb : ∀ x ∈ b, x.2.1.length = n) (vbb : ∀ x ∈ b, Pk.VB x.2.1) (bdb : ∀ x ∈ b, -1000000 ≤ x.2.2 ∧ x.2.2 ≤ 1000000) (hbl : b.length ≤ 1000000) (hsz : (a.length + b.length) * 56 ≤ 140737488355328) :
    Calls Tryz.prog 26 #[va, vb] w fun e w' => JnPost w B va (Pk.joinF a b) e w' := by
  obtain ⟨i0, hi, hz0, hz1, hz2⟩ := info_parts infoOut
  obtain ⟨xb, cb, rfl⟩ := hb.sl
  have HOT : Hid (∀ k, va.ownBlock = some k → ∃ cur fz, w.heap[k]? = some (.cells cur 55 fz)) := fun k hk => by
    obtain ⟨vs, _, ho⟩ := ha
    exact own_type ho hk
  have HBW : Hid (∀ W, But (fun k => va.ownBlock = some k) w W → RdO W (.slice xb b.length cb) b) := fun W hW => hb.butJ hW HOT.out (fun g off m c e => hne g off m c e)
  have H0 : Hid (JO w w B va va n a b 0) := by
    refine ⟨⟨?_, But.refl _ _, fun g q => .inl q⟩, ?_, ?_⟩
    · exact ha
    · have : (1000000000000 : Int) + 1000000 * ((0 : Nat) : Int) = 1000000000000 := by omega
      rw [this]
      exact hj
    · show a.length ≤ a.length + 0
      omega
  have HLB := hide lb
  have HVB := hide vbb
  have HBD := hide bdb
  obtain ⟨x0, n0, c0, rfl⟩ : ∃ x m c, va = .slice x m c := by
    obtain ⟨vs, _, ho⟩ := ha
    exact own_sl ho
  clear ha hb hne hj lb vbb bdb HOT
  generalize hva : Value.slice x0 n0 c0 = va at *
  have HVA := hide hva
  clear hva
  go_enter Tryz.func26, Tryz.ntmps26
  go_wp2
  go_loopw [0, 5] (fun v i wr => ∃ k : Nat, k ≤ b.length ∧ i = .int .i64 k ∧ (∃ x m c, v = .slice x m c) ∧ Hid (JO w wr B va v n a b k)) (fun _ i _ => b.length - (intOf i).toNat)
  case atStart => exact ⟨0, by omega, rfl, ⟨_, _, _, HVA.out.symm⟩, H0⟩
  case round =>
    obtain ⟨k, hk, rfl, ⟨x1, n1, c1, rfl⟩, J1⟩ := hrel
    clear H0
    by_cases hkl : k < b.length
    · have hkl' : (k : Int) < (b.length : Int) := by omega
      have HJT := hide (join_take a b k hkl)
      have hlk := HLB.out _ (List.getElem_mem hkl)
      have hvk := HVB.out _ (List.getElem_mem hkl)
      have hbk := HBD.out _ (List.getElem_mem hkl)
      have JS := hide (J1.out.2.1.step (by omega) hlk hvk hbk)
      have JI1 := hide J1.out.2.1
      have hll := J1.out.2.2
      have JM1 := hide J1.out.1
      have HVK := hide hvk
      clear J1 hvk
      generalize Pk.joinF a (b.take k) = L at *
      obtain ⟨xz, cz, ez⟩ : ∃ x c, Value.slice x1 n1 c1 = .slice x L.length c := by
        obtain ⟨vs, _, ho⟩ := JM1.out.own
        exact ownS ho
      cases ez
      generalize wr = wa at *
      go_upto_region 5 with fail
      go_wp2
      have JZ0 : Hid (JM w wa B va (.slice x1 L.length c1) (mixJ (Pv.keyO b[k]) b[k].2.2 L 0)) := by rw [mixJ_zero]; exact JM1
      clear JM1
      go_loopw [6, 7] (fun mt i wz => ∃ j : Nat, j ≤ L.length ∧ i = .int .i64 j ∧ mt = .bool (metF (Pv.keyO b[k]) (L.take j)) ∧ Hid (JM w wz B va (.slice x1 L.length c1) (mixJ (Pv.keyO b[k]) b[k].2.2 L j))) (fun _ i _ => L.length - (intOf i).toNat)
      case atStart => exact ⟨0, by omega, rfl, rfl, JZ0⟩
      case round =>
        obtain ⟨j, hj, rfl, rfl, JZ⟩ := hrel
        clear JZ0
        by_cases hjl : j < L.length
        · have hjl' : (j : Int) < (L.length : Int) := by omega
          have hjm : j < (mixJ (Pv.keyO b[k]) b[k].2.2 L j).length := by rw [mixJ_len]; exact hjl
          obtain ⟨g, cg, eg⟩ : ∃ g c, Value.slice x1 L.length c1 = .slice (some ⟨g, 0, none⟩) L.length c := by
            obtain ⟨vs, _, ho⟩ := JZ.out.own
            rcases own_form ho with ⟨_, h2⟩ | ⟨g, c, h1⟩
            · rw [mixJ_len] at h2
              omega
            · rw [mixJ_len] at h1
              exact ⟨g, c, h1⟩
          cases eg
          have HG := hide (mixJ_get (Pv.keyO b[k]) b[k].2.2 L j hjl hjm)
          obtain ⟨xj, cj, hrj, j0, j1, j2, j3, j4⟩ := JZ.out.own.rd.cell j hjm
          rw [HG.out] at hrj j0 j1 j2 j3 j4
          simp only [Nat.zero_add] at j0 j1 j2 j3 j4
          have hlj := JI1.out.len _ (List.getElem_mem hjl)
          have hbj := JI1.out.bd _ (List.getElem_mem hjl)
          rw [hlj] at hrj j3
          have RB := hide (HBW.out wr JZ.out.but)
          obtain ⟨gb, ob, cb', eb, _⟩ := RB.out.form1 (by omega)
          cases eb
          obtain ⟨xk, ck, hrk, k0, k1, k2, k3, k4⟩ := RB.out.cell k hkl
          rw [hlk] at hrk k3
          have HRJ := hide hrj
          have HRK := hide hrk
          have HMT := hide (metF_take (Pv.keyO b[k]) L j hjl b[k].2.2)
          have HMX := hide (mixJ_succ (Pv.keyO b[k]) b[k].2.2 L j hjl)
          clear hrj hrk
          go_upto_region 8 with fail
          go_still_tail 8, (by kernel_rfl)
          go_wp2_with fail
          refine (order_any L[j] b[k] (HRJ.out.below (below_drew0 _)) (HRK.out.below (below_drew0 _)) (by rw [hlj, hlk]) (by omega)).mono ?_
          rintro e wy ⟨rfl, bz⟩
          replace bz := undrew bz
          have JY := hide (JZ.out.below bz)
          have HCL := hide (Pk.cmp_low (a := L[j]) (b := b[k]) (by rw [hlj, hlk]) (JI1.out.vb _ (List.getElem_mem hjl)) HVK.out).1
          clear bz j0 j1 j2 j3 j4 k0 k1 k2 k3 k4 JZ
          generalize Pk.cmpL (Pk.keyL L[j]) (Pk.keyL b[k]) = cc at *
          by_cases hq : L[j].1 = (Pv.keyO b[k]).1 ∧ L[j].2.1 = (Pv.keyO b[k]).2
          · have hcc : (cc == 0) = true := by rw [beq_iff_eq]; exact HCL.out.2 (Prod.ext hq.1 hq.2)
            have hmf : metF (Pv.keyO b[k]) (L.take j) = false := met_none JI1.out.one hjl hq
            rw [if_pos hq] at HMX
            have hal : Pv.alikeF L[j] ((Pv.keyO b[k]).1, (Pv.keyO b[k]).2, b[k].2.2) = true := by simp [Pv.alikeF, hq.1, hq.2]
            rw [hmf, hal] at HMT
            rw [hmf]
            obtain ⟨_, _, _, _, _, _, _, j4⟩ := JY.out.own.rd.cell j hjm
            rw [HG.out] at j4
            simp only [Nat.zero_add] at j4
            have RY := hide (HBW.out wy JY.out.but)
            obtain ⟨_, _, _, _, _, _, _, k4⟩ := RY.out.cell k hkl
            have f4 := JY.out.own.free (j * 5 + 4)
            have JN : Hid (JM w (wy.setCell ⟨g, j * 5 + 4, none⟩ (.int .i64 (L[j].2.2 + b[k].2.2))) B va (.slice (some ⟨g, 0, none⟩) L.length c1) (mixJ (Pv.keyO b[k]) b[k].2.2 L (j + 1))) := by
              have h9 := JY.out.setN j hjm (L[j].2.2 + b[k].2.2)
              rw [HG.out, ← HMX.out] at h9
              exact h9
            generalize L[j].2.2 = nj at *
            generalize hnk : b[k].2.2 = nk at *
            have HNK := hide hnk
            clear hnk
            go_upto_region 10 with fail
            go_still_tail 15, (by kernel_rfl)
            go_wp2
            go_roundw
            case rel => exact ⟨j + 1, by omega, by go_num, by rw [HMT.out]; rfl, by rw [HNK.out]; exact JN.out.below (below_drew0 _)⟩
            case measure => simp [intOf]; omega
          · have hcc : (cc == 0) = false := by
              rw [beq_eq_false_iff_ne]
              intro e0
              have := HCL.out.1 e0
              exact hq ⟨congrArg (fun z : Pv.Key => z.1) this, congrArg (fun z : Pv.Key => z.2) this⟩
            rw [if_neg hq] at HMX
            have hal : Pv.alikeF L[j] ((Pv.keyO b[k]).1, (Pv.keyO b[k]).2, b[k].2.2) = false := by
              rw [Bool.eq_false_iff]
              intro h9
              simp only [Pv.alikeF, Bool.and_eq_true, decide_eq_true_eq] at h9
              exact hq h9
            rw [hal, Bool.or_false] at HMT
            go_wp2
            go_roundw
            case rel => exact ⟨j + 1, by omega, by go_num, by rw [HMT.out], by rw [HMX.out]; exact JY⟩
            case measure => simp [intOf]; omega
        · have hjl' : ¬ (j : Int) < (L.length : Int) := by omega
          rw [mixJ_all _ _ _ (by omega)] at JZ
          have HTK : Hid (L.take j = L) := List.take_of_length_le (by omega)
          rw [HTK.out]
          have HCI := hide (counted_is L (Pv.keyO b[k]) b[k].2.2)
          cases hmt : metF (Pv.keyO b[k]) L
          · rw [hmt] at HCI
            have RB := hide (HBW.out wr JZ.out.but)
            obtain ⟨gb, ob, cb', eb, _⟩ := RB.out.form1 (by omega)
            cases eb
            obtain ⟨xk, ck, hrk, k0, k1, k2, k3, k4⟩ := RB.out.cell k hkl
            rw [hlk] at hrk k3
            have HRK := hide hrk
            clear hrk
            obtain ⟨vz, hvz, hoz⟩ := JZ.out.own
            have HVZ := hide hvz
            have HOZ := hide hoz
            have hcl : (cntM (Pv.keyO b[k]) b[k].2.2 L).length = L.length := by simp [cntM]
            have hsB : B ≤ wr.heap.size := Nat.le_trans hB JZ.out.but.size
            clear hvz hoz
            generalize cntM (Pv.keyO b[k]) b[k].2.2 L = C at *
            go_wp2_with (at_builtin; refine wpList_append_own_at _ rfl (.tmp 53) (.tmp 58) 42 rfl B 55 i0 _ 5 56 Tryz.underlying42 hi hz0 hz1 hz2 rfl (by decide) _ C.length (routs C vz) rfl (HOZ.out.alloc _) _ 1 1 (oc b[k] (.slice xk n ck)) rfl rfl (World.news_of_block (heap_alloc_new _ _)) (oc_one _ _ _ _) (by unfold maxLen; omega) (by omega) (by simp; omega) ?_; intro v8 w9 hown8 hgrow8 hnil8 hat8; have O8 := hide (OwnO.app (o := b[k]) (HVZ.out.below ((Below.refl _ _).alloc (Nat.le_refl _) _)) (HRK.out.below ((Below.refl _ _).alloc (Nat.le_refl _) _)) (HOZ.out.alloc _) hgrow8 hown8); have G8 := hide hgrow8; have A8 := hide hat8; clear hown8 hgrow8 hnil8 hat8)
            have JN : Hid (JM w w9 B va v8 (C ++ [b[k]])) := by
              refine ⟨O8.out, But.grownJ (v := .slice x1 L.length c1) (JZ.out.but.of ((Below.refl _ _).alloc (Nat.le_refl _) _)) G8.out JZ.out.old, fun g q => ?_⟩
              rcases A8.out with e | e
              · exact JZ.out.old g (e.symm.trans q)
              · rw [e] at q
                have h9 := Option.some.inj q
                have h8 := JZ.out.but.size
                right
                rw [← h9]
                simp
                omega
            clear G8 A8
            obtain ⟨x8, n8, c8, rfl⟩ : ∃ x m c, v8 = .slice x m c := by
              obtain ⟨vs, _, ho⟩ := O8.out
              exact own_sl ho
            go_roundw
            case rel =>
              refine ⟨k + 1, by omega, by go_num, ⟨_, _, _, rfl⟩, ?_, ?_, ?_⟩
              · rw [HJT.out, HCI.out, if_neg (by simp)]; exact JN.out
              · rw [HJT.out]
                have h9 := JS.out.1
                have e9 : (1000000000000 : Int) + 1000000 * (k : Int) + 1000000 = 1000000000000 + 1000000 * ((k + 1 : Nat) : Int) := by omega
                rw [e9] at h9
                exact h9
              · rw [HJT.out]
                have h9 := JS.out.2
                omega
            case measure => simp [intOf]; omega
          · rw [hmt] at HCI
            go_wp2
            go_roundw
            case rel =>
              refine ⟨k + 1, by omega, by go_num, ⟨_, _, _, rfl⟩, ?_, ?_, ?_⟩
              · rw [HJT.out, HCI.out, if_pos rfl]; exact JZ.out
              · rw [HJT.out]
                have h9 := JS.out.1
                have e9 : (1000000000000 : Int) + 1000000 * (k : Int) + 1000000 = 1000000000000 + 1000000 * ((k + 1 : Nat) : Int) := by omega
                rw [e9] at h9
                exact h9
              · rw [HJT.out]
                have h9 := JS.out.2
                omega
            case measure => simp [intOf]; omega
    · have hkl' : ¬ (k : Int) < (b.length : Int) := by omega
      have HE : Hid (b.take k = b) := List.take_of_length_le (by omega)
      go_wp2
      go_ret
      exact ⟨_, rfl, by rw [← HE.out]; exact J1.out.1⟩
end Go.Proofs.YtcoofnhdbejnpaaGreatDoor

/- Two views and the counts beside each other. -/
namespace Go.Proofs.YtcoofnhdbejnpaaGreatDoor
open Go.RowKit
/-- another view, whatever it has -/
def XVx (w : World) (gy : Nat) (Q : Pv.Qry) (t : List Pv.Chg) : Prop := ∃ vb vk vf has tp fr vt, XV w gy vb vk vf has tp fr vt Q t
end Go.Proofs.YtcoofnhdbejnpaaGreatDoor

/- A view, whatever it has: a batch is given to it, its rows. -/
namespace Go.Proofs.YtcoofnhdbejnpaaGreatDoor
open Go.RowKit
theorem XVx.rows {w : World} {gx : Nat} {Q : Pv.Qry} {t : List Pv.Chg} (h : XVx w gx Q t) :
    Calls Tryz.prog 19 #[.pointer (some ⟨gx, 0, none⟩)] w fun e w' => RowsPost w (Pv.rowsF Q t) e w' := by
  obtain ⟨vb, vk, vf, has, tp, fr, vt, h⟩ := h
  exact xrows_rd h
theorem XVx.small {w : World} {gx : Nat} {Q : Pv.Qry} {t0 : List Pv.Chg} (h : XVx w gx Q t0) : (∀ {t : List Pv.Chg}, Pv.TInv t → (Pv.rowsF Q t).length ≤ 320000 ∧ ∀ x ∈ Pv.rowsF Q t, x.2.1.length ≤ 1000 ∧ -320000 ≤ x.2.2 ∧ x.2.2 ≤ 320000) ∧ ∀ {t b : List Pv.Chg}, Pv.TInv t → (Pv.refusedF t b).1 = 0 → (Pv.appliedF Q t b).length ≤ 320000 ∧ ∀ x ∈ Pv.appliedF Q t b, x.2.1.length ≤ 1000 ∧ -320000 ≤ x.2.2 ∧ x.2.2 ≤ 320000 := by
  obtain ⟨vb, vk, vf, has, tp, fr, vt, h⟩ := h
  exact ⟨fun ht => rows_small h.q ht, fun ht h0 => applied_small h.q ht h0⟩
end Go.Proofs.YtcoofnhdbejnpaaGreatDoor

/- Package paneskeep: whole. -/
namespace Go.Proofs.YtcoofnhdbejnpaaGreatDoor
open Go.RowKit
theorem totO_take2 (l : List Pv.Out) (k : Nat) (h : k < l.length) : Pk.totO (l.take (k + 1)) = Pk.totO (l.take k) + l[k].2.2 := by
  rw [List.take_succ_eq_append_getElem h, Pk.totO_app]
  simp [Pk.totO]
theorem totO_bd2 : ∀ (l : List Pv.Out), (∀ x ∈ l, -320000 ≤ x.2.2 ∧ x.2.2 ≤ 320000) → -(320000 * (l.length : Int)) ≤ Pk.totO l ∧ Pk.totO l ≤ 320000 * (l.length : Int)
  | [], _ => by simp [Pk.totO]
  | o :: l, h => by
    have ih := totO_bd2 l (fun x hx => h x (by simp [hx]))
    have ho := h o (by simp)
    rw [Pk.totO_cons, List.length_cons]
    omega
theorem rows_prop9 {Q : Pv.Qry} {t : List Pv.Chg} (ht : Pv.TInv t) (hf : ∀ f ∈ Q.fs, 0 ≤ f.num) (hs : ∀ x ∈ Pv.rowsF Q t, -320000 ≤ x.2.2 ∧ x.2.2 ≤ 320000) : Prop9 Q.fs.length (Pv.rowsF Q t) := by
  have h := Pk.rows_spec (q := Q) ht
  exact ⟨h.1, fun x hx => (h.2.1 x hx).1, fun x hx => (h.2.1 x hx).2, Pk.rows_vb ht hf, fun x hx => by have := hs x hx; omega⟩
theorem applied_prop9 {Q : Pv.Qry} {t b : List Pv.Chg} (ht : Pv.TInv t) (h0 : (Pv.refusedF t b).1 = 0) (hf : ∀ f ∈ Q.fs, 0 ≤ f.num) (hs : ∀ x ∈ Pv.appliedF Q t b, -320000 ≤ x.2.2 ∧ x.2.2 ≤ 320000) : Prop9 Q.fs.length (Pv.appliedF Q t b) := by
  have h := Pk.applied_spec (q := Q) ht h0
  exact ⟨h.1, fun x hx => (h.2.1 x hx).1, fun x hx => (h.2.1 x hx).2, Pk.applied_vb ht h0 hf, fun x hx => by have := hs x hx; omega⟩
set_option maxRecDepth 100000 in
set_option maxHeartbeats 2000000 in
theorem whole_any {w : World} {gx : Nat} {Q : Pv.Qry} {t : List Pv.Chg} (h : XVx w gx Q t) (ht : Pv.TInv t) (hf : ∀ f ∈ Q.fs, 0 ≤ f.num) (hn : Q.fs.length ≤ 1000) (hq : Q.top < 0) :
    Calls Tryz.prog 28 #[.pointer (some ⟨gx, 0, none⟩), .int .i64 (Q.fs.length : Nat), .int .i64 (Pv.totalF t)] w fun e w' => e = .returned (.bool true) ∧ Below w.heap.size w w' := by
  have HX := hide h
  have SMR := hide (h.small.1 ht)
  have HP := hide (rows_prop9 ht hf (fun x hx => (SMR.out.2 x hx).2))
  have HNN := hide (Pk.rows_nn (q := Q) ht)
  have HTO := hide (Pk.rows_total hq ht)
  clear h hf hq
  go_enter Tryz.func28, Tryz.ntmps28
  go_wp2_with fail
  refine (HX.out.rows).mono ?_
  rintro e w1 ⟨b1, x1, n1, c1, rfl, r1⟩
  have B1 := hide b1
  have L1 := hide r1
  clear b1 r1
  generalize Pv.rowsF Q t = R at *
  obtain ⟨x2, c2, e2⟩ := L1.out.sl
  cases e2
  have hRl := SMR.out.1
  have HTB := hide (fun k => totO_bd2 (R.take k) (fun x hx => (SMR.out.2 x (List.mem_of_mem_take hx)).2))
  go_wp2
  go_loop [8, 9] (fun v i => ∃ k : Nat, k ≤ R.length ∧ i = .int .i64 k ∧ v = .int .i64 (Pk.totO (R.take k))) (fun _ i => R.length - (intOf i).toNat)
  case atStart => exact ⟨0, by omega, rfl, rfl⟩
  case round =>
    obtain ⟨k, hk, rfl, rfl⟩ := hrel
    by_cases hkl : k < R.length
    · have hkl' : (k : Int) < (R.length : Int) := by omega
      obtain ⟨g6, off6, c6', e6, hc6⟩ := L1.out.form1 (by omega)
      cases e6
      obtain ⟨xk, ck', _, k0, k1, k2, k3, k4⟩ := L1.out.cell k hkl
      have HT2 := hide (totO_take2 R k hkl)
      have hbd := HTB.out k
      rw [List.length_take] at hbd
      obtain ⟨_, hr1, hr2⟩ := SMR.out.2 R[k] (List.getElem_mem hkl)
      have hr0 := HNN.out R[k] (List.getElem_mem hkl)
      have t1 : -200000000000 ≤ Pk.totO (R.take k) := by omega
      have t2 : Pk.totO (R.take k) ≤ 200000000000 := by omega
      clear hbd
      generalize Pk.totO (R.take k) = st at *
      generalize R[k].2.2 = rn at *
      have hr3 : ¬ rn < 0 := by omega
      go_wp2
      go_round
      case rel => exact ⟨k + 1, by omega, by go_num, by rw [HT2.out]⟩
      case measure => simp [intOf]; omega
    · have hkl' : ¬ (k : Int) < (R.length : Int) := by omega
      have HE : Hid (Pk.totO (R.take k) = Pv.totalF t) := by show _ = _; rw [List.take_of_length_le (by omega)]; exact HTO.out
      rw [HE.out]
      go_wp2_with fail
      refine (proper_any L1.out (by omega) HP.out hn).mono ?_
      rintro e w2 ⟨rfl, b2⟩
      have B2 := hide (B1.out.trans (b2.mono B1.out.size))
      clear b2
      go_wp2
      go_ret
      exact ⟨by simp, B2.out⟩
end Go.Proofs.YtcoofnhdbejnpaaGreatDoor

/- The view and the counts beside a list that is added up. -/
namespace Go.Proofs.YtcoofnhdbejnpaaGreatDoor
open Go.RowKit
theorem OwnO.butO {w w' : World} {B : Nat} {v : Value} {l : List Pv.Out} (h : OwnO w B v l) {S : Nat → Prop} {p : Nat → Prop} (hb : But S w w') (ho : Off S w p) (h1 : p 55) (h2 : p 52) : OwnO w' B v l := by
  obtain ⟨vs, hv, hr⟩ := h
  exact ⟨vs, ⟨hv.1, fun j hj hj2 => RdG.but (hv.2 j hj hj2) hb ho h2⟩, own_but hr hb (fun g hg => by
    obtain ⟨c1, f1, e1⟩ := own_type hr hg
    exact ho.ne e1 h1)⟩
/-- the blocks that turn are of out rows -/
theorem offOut {w : World} {S : Nat → Prop} (hS : ∀ k, S k → ∃ cur fz, w.heap[k]? = some (.cells cur 55 fz)) : Off S w (fun T => T ≠ 55) := fun k hk _ => by
  obtain ⟨cur, fz, e⟩ := hS k hk
  exact ⟨cur, _, fz, e, fun q => q rfl⟩
theorem UM.butJ {N : Nat} {w wr w1 : World} {bc gx : Nat} {Q : Pv.Qry} {cs : List Pv.Chg} {all : Int} {t : List Pv.Chg} (h : UM N w wr bc gx Q cs all t) {S : Nat → Prop} (hb : But S wr w1) (hS : ∀ k, S k → ∃ cur fz, wr.heap[k]? = some (.cells cur 55 fz)) (hge : ∀ k, S k → N ≤ k) : UM N w w1 bc gx Q cs all t := by
  obtain ⟨hb0, hN1, hN2, hN3, hI, hSm, vr, vn, vb, vk, vf, has, tp, fr, vt, hc, hx⟩ := h
  have ho := offOut hS
  refine ⟨But.near hb0 hN3 hb (fun k hk e => by have := hge k e; omega), hN1, hN2, hN3, hI, hSm, vr, vn, vb, vk, vf, has, tp, fr, vt, hc.but hb (fun k hk => ?_), (hb.block gx (Array.getElem?_eq_some_iff.1 hx.blk).1 (ho.ne hx.blk (by decide))).trans hx.blk, hx.q.but hb ho (by decide) (by decide) (by decide), hx.rt.but hb ho (by decide), hx.inv⟩
  obtain ⟨_, cur, T, fz, e, hT⟩ := hc.kind k hk
  refine ho.ne e ?_
  rcases hT with q | q | q
  · rw [q]; decide
  · rw [q]; decide
  · rw [q]; decide
end Go.Proofs.YtcoofnhdbejnpaaGreatDoor

/- Package paneskeep: Adds' state: the view, the counts, and what was told, added up. -/
namespace Go.Proofs.YtcoofnhdbejnpaaGreatDoor
open Go.RowKit
theorem fn_nn (f : Pq.Fn) (h : Pk.GoodFn f) : 0 ≤ f.num := by
  induction f, h using Pk.GoodFn_ind with
  | plain k h => show (0 : Int) ≤ 0; omega
  | tile n h h0 => show (0 : Int) ≤ (n : Int); omega
  | lag k c n hk hc h => show (0 : Int) ≤ (n : Int); omega
  | over k c f h6 hk hc hf => show (0 : Int) ≤ 0; omega
/-- what was told, added up: it is the view -/
structure SM (Q : Pv.Qry) (t : List Pv.Chg) (k : Nat) (S : List Pv.Out) : Prop where
  one : Pk.OneO S
  sum : ∀ x, Pv.sumO S x = Pv.cntT Q t x
  len : ∀ x ∈ S, x.2.1.length = Q.fs.length
  vb : ∀ x ∈ S, Pk.VB x.2.1
  few : S.length ≤ 320000 * k
theorem cntT_nil (Q : Pv.Qry) (x : Pv.Key) : Pv.cntT Q [] x = 0 := by
  unfold Pv.cntT
  rw [if_neg (by simp [Pv.sumOf])]
theorem SM.nil (Q : Pv.Qry) : SM Q [] 0 [] := ⟨List.Pairwise.nil, fun x => by rw [cntT_nil]; rfl, fun x h => by simp at h, fun x h => by simp at h, by simp⟩
theorem SM.bd {Q : Pv.Qry} {t : List Pv.Chg} {k : Nat} {S : List Pv.Out} (h : SM Q t k S) (ht : Pv.TInv t) (hs : ∀ x ∈ Pv.rowsF Q t, -320000 ≤ x.2.2 ∧ x.2.2 ≤ 320000) : ∀ x ∈ S, -320000 ≤ x.2.2 ∧ x.2.2 ≤ 320000 := fun x hx => by
  have e := Pv.one_sum h.one hx
  have r := Pk.rows_spec (q := Q) ht
  rw [h.sum] at e
  by_cases h0 : x.2.2 = 0
  · omega
  · rw [← r.2.2] at e
    obtain ⟨y, hy, ey⟩ := Pv.sum_mem (l := Pv.rowsF Q t) (k := Pv.keyO x) (by rw [e]; exact h0)
    have e2 := Pv.one_sum r.1.one hy
    rw [ey, e] at e2
    rw [e2]
    exact hs y hy
theorem SM.ji {Q : Pv.Qry} {t : List Pv.Chg} {k : Nat} {S : List Pv.Out} (h : SM Q t k S) (ht : Pv.TInv t) (hs : ∀ x ∈ Pv.rowsF Q t, -320000 ≤ x.2.2 ∧ x.2.2 ≤ 320000) : JI Q.fs.length 1000000000000 S := ⟨h.one, h.len, h.vb, fun x hx => by have := h.bd ht hs x hx; omega⟩
theorem join_mem : ∀ (b a : List Pv.Out), (∀ x ∈ Pk.joinF a b, (∃ y ∈ a, y.2.1 = x.2.1) ∨ ∃ y ∈ b, y.2.1 = x.2.1) ∧ (Pk.joinF a b).length ≤ a.length + b.length
  | [], a => ⟨fun x hx => .inl ⟨x, hx, rfl⟩, by simp [Pk.joinF]⟩
  | o :: b, a => by
    have ih := join_mem b (Pv.countedF a (Pv.keyO o) o.2.2)
    have e : Pk.joinF a (o :: b) = Pk.joinF (Pv.countedF a (Pv.keyO o) o.2.2) b := rfl
    rw [e]
    have hc : ∀ x ∈ Pv.countedF a (Pv.keyO o) o.2.2, (∃ y ∈ a, y.2.1 = x.2.1) ∨ o.2.1 = x.2.1 := by
      intro x hx
      unfold Pv.countedF at hx
      split at hx
      · obtain ⟨y, hy, rfl⟩ := List.mem_map.1 hx
        refine .inl ⟨y, hy, ?_⟩
        split <;> rfl
      · rcases List.mem_append.1 hx with q | q
        · exact .inl ⟨x, q, rfl⟩
        · rw [List.mem_singleton.1 q]
          exact .inr rfl
    have hl : (Pv.countedF a (Pv.keyO o) o.2.2).length ≤ a.length + 1 := by
      unfold Pv.countedF
      split <;> simp
    refine ⟨fun x hx => ?_, by have := ih.2; rw [List.length_cons]; omega⟩
    rcases ih.1 x hx with ⟨y, hy, ey⟩ | ⟨y, hy, ey⟩
    · rcases hc y hy with ⟨z, hz, ez⟩ | ez
      · exact .inl ⟨z, hz, ez.trans ey⟩
      · exact .inr ⟨o, by simp, ez.trans ey⟩
    · exact .inr ⟨y, by simp [hy], ey⟩
theorem SM.step {Q : Pv.Qry} {t b : List Pv.Chg} {k : Nat} {S : List Pv.Out} (h : SM Q t k S) (ht : Pv.TInv t) (h0 : (Pv.refusedF t b).1 = 0) (hf : ∀ f ∈ Q.fs, 0 ≤ f.num) (hl : (Pv.appliedF Q t b).length ≤ 320000) : SM Q (Pv.tableF t b) (k + 1) (Pk.joinF S (Pv.appliedF Q t b)) := by
  have js := Pk.join_step h.one h.sum ht h0
  have jm := join_mem (Pv.appliedF Q t b) S
  have ap := Pk.applied_spec (q := Q) ht h0
  have av := Pk.applied_vb ht h0 hf
  refine ⟨js.1, js.2, fun x hx => ?_, fun x hx => ?_, by have := jm.2; have := h.few; omega⟩
  · rcases jm.1 x hx with ⟨y, hy, e⟩ | ⟨y, hy, e⟩
    · rw [← e]; exact h.len y hy
    · rw [← e]; exact (ap.2.1 y hy).2
  · rcases jm.1 x hx with ⟨y, hy, e⟩ | ⟨y, hy, e⟩
    · rw [← e]; exact h.vb y hy
    · rw [← e]; exact av y hy
/-- those of the sum that have copies are the view's -/
theorem SM.covers {Q : Pv.Qry} {t : List Pv.Chg} {k : Nat} {S : List Pv.Out} (h : SM Q t k S) (ht : Pv.TInv t) : (∀ x ∈ S, x.2.2 ≠ 0 → metC x (Pv.rowsF Q t) = true) ∧ nzl S = (Pv.rowsF Q t).length := by
  have r := Pk.rows_spec (q := Q) ht
  have c := Pk.covers_ok h.one r.1 (fun x hx => (r.2.1 x hx).1) (fun x => (h.sum x).trans (r.2.2 x).symm)
  refine ⟨fun x hx hx0 => List.any_eq_true.2 ⟨x, c.1 x hx hx0, ?_⟩, c.2⟩
  have := (Pk.cmp_low (a := x) (b := x) rfl (h.vb x hx) (h.vb x hx)).1.2 rfl
  simp [this]
def ABPost (N : Nat) (w : World) (bc gx : Nat) (Q : Pv.Qry) (cs : List Pv.Chg) (all : Int) (t : List Pv.Chg) (l : Pq.Bytes) (v : Value) (S : List Pv.Out) (e : Ending) (w' : World) : Prop :=
  ∃ x n c, e = .returned (.slice x n c) ∧ UB N w w' bc gx Q cs all t l ∧ RdC w' (.slice x n c) (Pk.batchF l cs all).l ∧ OwnO w' N v S
theorem UM.batchO {N : Nat} {w wr : World} {bc gx : Nat} {Q : Pv.Qry} {cs : List Pv.Chg} {all : Int} {t : List Pv.Chg} (h : UM N w wr bc gx Q cs all t) {s : ByteArray} (hs : s.size ≤ maxLen) {v : Value} {S : List Pv.Out} (hv : OwnO wr N v S) :
    Calls Tryz.prog 24 #[.pointer (some ⟨bc, 0, none⟩), .string s] wr fun e w' => ABPost N w bc gx Q cs all t s.data.toList v S e w' := by
  obtain ⟨hb, hN1, hN2, hN3, hI, hS, vr, vn, vb, vk, vf, has, tp, fr, vt, hc, hx⟩ := h
  refine (batch_any hc hI (Nat.le_trans hN3 hb.size) hs).mono ?_
  rintro e w' ⟨bu, x, n, c, vr', vn', rfl, own, cm, o1, o2⟩
  exact ⟨x, n, c, rfl, ⟨But.near hb hN3 bu (hc.ge hN1), hN1, hN2, hN3, hI, hS, vr', vn', vb, vk, vf, has, tp, fr, vt, cm, hx.butC hc bu⟩, RdC.ofOwn own, hv.butO bu hc.off (by unfold pC; decide) (by unfold pC; decide)⟩
def AAPost (N : Nat) (w : World) (bc gx : Nat) (Q : Pv.Qry) (cs : List Pv.Chg) (all : Int) (t bt : List Pv.Chg) (v : Value) (S : List Pv.Out) (e : Ending) (w' : World) : Prop :=
  ∃ x n c, e = .returned (.tuple #[.slice x n c, .int .i64 0, .int .i64 0]) ∧ UM N w w' bc gx Q cs all (Pv.tableF t bt) ∧ RdO w' (.slice x n c) (Pv.appliedF Q t bt) ∧ OwnO w' N v S ∧ ∀ g off m c', Value.slice x n c = .slice (some ⟨g, off, none⟩) m c' → v.ownBlock ≠ some g
theorem UB.applyO {N : Nat} {w wr : World} {bc gx : Nat} {Q : Pv.Qry} {cs : List Pv.Chg} {all : Int} {t : List Pv.Chg} {l : Pq.Bytes} (h : UB N w wr bc gx Q cs all t l) {vb0 : Value} (hv0 : RdC wr vb0 (Pk.batchF l cs all).l) {v : Value} {S : List Pv.Out} (hv : OwnO wr N v S) :
    Calls Tryz.prog 18 #[.pointer (some ⟨gx, 0, none⟩), vb0] wr fun e w' => AAPost N w bc gx Q (Pk.batchF l cs all).cs (Pk.batchF l cs all).all t (Pk.batchF l cs all).l v S e w' := by
  obtain ⟨hb, hN1, hN2, hN3, hI, hS, vr, vn, vb, vk, vf, has, tp, fr, vt, hc, hx⟩ := h
  obtain ⟨h0, hs2, hI2, hl⟩ := Pk.batch_ok l hI hS
  have h1 : (Pv.refusedF t (Pk.batchF l cs all).l).1 = 0 := by rw [h0]
  refine (xapply_any hx hv0 (by omega)).mono ?_
  rintro e w' ⟨bu, x, n, c, x2, n2, c2, P, rfl, oq, hm, hblk, hor⟩
  have hne : ¬ CS bc vr vn gx := hc.off.ne hx.blk (by unfold pC; decide)
  rcases hor with ⟨hq, _⟩ | ⟨_, own⟩
  · exact absurd h1 hq
  · refine ⟨x, n, c, by rw [h0]; rfl, ⟨But.near hb hN3 bu (fun k hk e => by omega), hN1, hN2, hN3, hI2, hs2, vr, vn, vb, vk, vf, has, tp, fr, .slice x2 n2 c2, hc.but bu (fun k hk e => hne (e ▸ hk)), ⟨hblk, hx.q.but bu hx.offX (by decide) (by decide) (by decide), RdC.ofOwn own, (hx.inv.next h1).1⟩⟩, ?_, hv.butO bu hx.offX (by decide) (by decide), fun g off m c' e e2 => ?_⟩
    · rw [← hm]
      exact oq.toP.toO.rd
    · have a1 := own_at oq.row (g := g) (by rw [e]; rfl)
      obtain ⟨vs, _, ho⟩ := hv
      have a2 := own_at ho e2
      omega
/-- what is told is added -/
def ANPost (N : Nat) (w : World) (bc gx : Nat) (Q : Pv.Qry) (cs : List Pv.Chg) (all : Int) (t : List Pv.Chg) (S : List Pv.Out) (e : Ending) (w' : World) : Prop :=
  ∃ v, e = .returned v ∧ UM N w w' bc gx Q cs all t ∧ OwnO w' N v S
theorem UM.joined {N : Nat} {w wr : World} {bc gx : Nat} {Q : Pv.Qry} {cs : List Pv.Chg} {all : Int} {t : List Pv.Chg} (h : UM N w wr bc gx Q cs all t) {v vb : Value} {S b : List Pv.Out} {n : Nat} (hv : OwnO wr N v S) (hb : RdO wr vb b) (hne : ∀ g off m c, vb = .slice (some ⟨g, off, none⟩) m c → v.ownBlock ≠ some g) (hj : JI n 1000000000000 S) (hn : n ≤ 1000) (hp : Prop9 n b) (hbl : b.length ≤ 1000000) (hsz : (S.length + b.length) * 56 ≤ 140737488355328) :
    Calls Tryz.prog 26 #[v, vb] wr fun e w' => ANPost N w bc gx Q cs all t (Pk.joinF S b) e w' := by
  refine (kjoined_any hv (Nat.le_trans h.2.2.2.1 h.1.size) hb hne hj hn hp.len hp.vb hp.bd hbl hsz).mono ?_
  rintro e w' ⟨v', rfl, jm⟩
  obtain ⟨vs, _, ho⟩ := hv
  exact ⟨v', rfl, h.butJ jm.but (fun k hk => own_type ho hk) (fun k hk => (own_at ho hk).1), jm.own⟩
end Go.Proofs.YtcoofnhdbejnpaaGreatDoor

