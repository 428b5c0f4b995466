/-
  For every text of raw bytes, both choices of by and top and every list of raw bytes: paneskeep.Settled returns true, and its arguments read afterwards as before. Conditions: the three tables of math/bits and internal/strconv that the road names start as the program's text lays them (the card ties them).
-/
import Derived.Test.YtcoofnhdbejnpaaGreatDoorRows
import Derived.ProofKit
import Derived.LaidMore
import Derived.OpenShut
import Derived.ShutString
import Derived.Stop.Joined
import Derived.Deep.Slices
import Derived.WideKeyArgs
import Derived.Test.YtcoofnhdbejnpaaGreatDoorG42
import Derived.Test.YtcoofnhdbejnpaaGreatDoorG43
import Derived.Test.YtcoofnhdbejnpaaGreatDoorCards
import Derived.Test.YtcoofnhdbejnpaaGreatDoorTie
import Derived.SevenTiedAt
namespace Go.Proofs.YtcoofnhdbejnpaaGreatDoor
open Go.ChangeShapes Go.WideShapes Go.ChangeAt Go.RowKit Go.Deep
open Go.ChangeMaps (open_string shut_string)
theorem settled_door (os : Os) (args : Array Value) : laidMetH Tryz.prog Rows.settledRow.laid ((World.doorLaid Tryz.prog 100 os).forCall (fun _ _ => 0) ⟨#[], args, []⟩).memory :=
  laidMetH_of_parts3 (fuel := 8) (laidMet_of_run' 8 (by kernel_rfl) (by kernel_rfl)) (by kernel_rfl) (by kernel_rfl)
set_option maxRecDepth 100000 in
set_option maxHeartbeats 1000000 in
theorem settled_lifted (os : Os) (started : os.Started) (H : Type) (enc : TypeId × Value → H) :
    ReturnsInHanded {} Tryz.checked os 9 .any (fun w args => (Rows.settledSpec.pre enc Tryz.prog Tryz.f9 [] false w args ∧ laidMetH Tryz.prog Rows.settledRow.laid w) ∧ sizedMet enc Tryz.prog Tryz.f9 (OpenSpec.ofChange Rows.settledSpec) false w args)
      (Rows.settledSpec.post enc Tryz.prog Tryz.f9 false true false false) := by
  refine returnsInHanded_of_change_and (C := Tryz.checked) (X := fun w _ => laidMetH Tryz.prog Rows.settledRow.laid w) (fun _ _ _ hh h => h.of_heap hh) kown started (by kernel_rfl) Tryz.func9
    (ChangeSpec.witness_shaped (enc := enc) (C := Tryz.checked) (os := os) (X := fun w _ => laidMetH Tryz.prog Rows.settledRow.laid w) false (World.doorLaid Tryz.prog 100 os) #[.string ByteArray.empty, .bool false, .bool false, .slice none 0 0] 8 rfl (World.shaped_of_RefB (by kernel_rfl) (by kernel_rfl)) (by kernel_rfl) (by kernel_rfl) (by kernel_rfl) (settled_door os _)) ?_
  intro W base args ds gs before hval0 hW _ hwt0 _ _
  have hwt : (DataW.weightsEach Tryz.prog (Tryz.f9.params.toList ++ Rows.settledSpec.plain.varTypes Tryz.prog) (ds ++ gs)).all (· ≤ reachBytes) = true := hwt0
  clear hwt0
  have hval : ∀ (j : Nat) t v, Tryz.f9.params[j]? = some t → args[j]? = some v → Value.okWide Tryz.prog W .any base t v := hval0
  have hW' := hW
  obtain ⟨p, q, hA0, hV, rfl, hfz, hnd⟩ := hW
  have hA : DataW.TrodAll enc Tryz.prog W 0 (fun _ => true) true Tryz.f9.params.toList args.toList ds p := hA0
  rw [Tryz.params9] at hA hval hwt
  obtain ⟨v0, vs0, d0, ds0, p0, q0, hargs, rfl, rfl, h0, r0⟩ := trodAll_cons hA
  obtain ⟨v1, vs1, d1, ds1, p1, q1, rfl, rfl, rfl, h1, r1⟩ := trodAll_cons r0
  obtain ⟨v2, vs2, d2, ds2, p2, q2, rfl, rfl, rfl, h2, r2⟩ := trodAll_cons r1
  obtain ⟨v3, vs3, d3, ds3, p3, q3, rfl, rfl, rfl, h3, r3⟩ := trodAll_cons r2
  obtain ⟨rfl, rfl, rfl⟩ := trodAll_nil r3
  obtain rfl : args = #[v0, v1, v2, v3] := by cases args; simp_all
  obtain ⟨rfl, rfl⟩ := trodVars_none hV
  obtain ⟨a0, rfl, rfl, rfl, w0⟩ := open_string Tryz.underlying9 (hval 0 9 v0 rfl rfl) h0
  obtain ⟨a1, rfl, rfl, rfl⟩ := open_bool Tryz.underlying4 (hval 1 4 v1 rfl rfl) h1
  obtain ⟨a2, rfl, rfl, rfl⟩ := open_bool Tryz.underlying4 (hval 2 4 v2 rfl rfl) h2
  have h3k := h3
  obtain ⟨x3, len, cap, rfl⟩ := okWide_slice Tryz.underlying58 (hval 3 58 v3 rfl rfl)
  obtain ⟨fuel, hf⟩ := h3
  clear hA0 hval0
  simp only [List.append_nil, List.nil_append] at hW'
  have hlt : ∀ x ∈ p3, x.block < W.heap.size := fun x hx => hW'.lt x (by simpa using hx)
  have tail : ∀ W' : World, Below W.heap.size W W' → Rows.settledSpec.post enc Tryz.checked.prog Tryz.f9 false true false false W #[.string a0, .bool a1, .bool a2, .slice x3 len cap] (.bool true) W' := by
    intro W' hb
    refine ⟨_, _, _, [], [] ++ ([] ++ ([] ++ (p3 ++ []))), [], hW', trodAll_cons_mk (shut_bool Tryz.underlying4 _) trodAll_mk0, ?_, rfl, hb.frame _, fun h => by cases h⟩
    exact trodAll_cons_mk (shut_string Tryz.underlying9 w0) (trodAll_cons_mk (shut_bool Tryz.underlying4 a1) (trodAll_cons_mk (shut_bool Tryz.underlying4 a2) (trodAll_cons_mk (WideElems.Trod_stays klaidOut (by kernel_rfl) (of_decide_eq_true (by kernel_rfl)) h3k (fun x hx => hb.same (hlt x hx)) (fun x hx => by simpa using hlt x hx)) trodAll_mk0)))
  rcases open_slice1 Tryz.underlying58 kcellsStr hf with ⟨hcs, hx⟩ | ⟨a, len', cap', m, n, V, D, Pl, hcs, hb, hl, hm, hmm, hx, hel⟩
  · simp [Value.cells] at hcs
    obtain ⟨rfl, rfl, rfl⟩ := hcs
    refine (settled_walk a0 a1 a2 _ 0 (fun _ => ByteArray.empty) W w0 (by omega) (.inl ⟨rfl, rfl⟩)).mono fun e W' ⟨he, hb⟩ => ?_
    subst he
    exact ⟨_, rfl, tail W' hb⟩
  · simp [Value.cells] at hcs
    obtain ⟨rfl, rfl, rfl⟩ := hcs
    have hlen : len ≤ 1000000000000000 := by
      have e : d3 = _ := congrArg Prod.fst hx
      rw [e] at hwt
      simp only [List.cons_append, List.nil_append, List.append_nil, DataW.weightsEach, DataW.weights, Tryz.underlying58, kbytesStr, List.all_cons, List.all_append, Bool.and_eq_true, decide_eq_true_eq] at hwt
      have hr : reachBytes = 140737488351232 := rfl
      simp at hwt
      omega
    simp only [if_true] at hmm
    subst hmm
    refine (settled_walk a0 a1 a2 _ len (strAt W a) W w0 hlen (.inr ⟨a, m, rfl, fun i hi => ?_⟩)).mono fun e W' ⟨he, hb⟩ => ?_
    · obtain ⟨h1, h2⟩ := hel i (by omega)
      obtain ⟨h3, h4⟩ := strAt_of h1 h2
      refine ⟨?_, h3, h4⟩
      have := World.cell?_lt h3
      unfold Addr.add at this
      split at this <;> exact this
    · subst he
      exact ⟨_, rfl, tail W' hb⟩
theorem settled_holds : Rows.SettledSaid :=
  OpenClaim.holds_of_wide 9 Tryz.f9 rfl rfl rfl rfl rfl rfl rfl ⟨rfl, rfl, rfl, rfl, rfl⟩ rfl rfl rfl rfl rfl (by kernel_rfl) Tryz.func9 (by kernel_rfl)
    (of_decide_eq_true (by kernel_rfl)) (by unfold Func.isWrapper; first | (rw [if_pos (by decide +kernel)]; kernel_rfl) | (rw [if_neg (by decide +kernel)]; exact ⟨rfl, rfl⟩))
    (fun os started H enc _ => settled_lifted os started H enc)
end Go.Proofs.YtcoofnhdbejnpaaGreatDoor

/-
  For every text of raw bytes, both choices of by and top and every list of raw bytes: paneskeep.Settled returns true, and its arguments read afterwards as before. No condition beyond the tie: the three tables of math/bits and internal/strconv that the road names are tied to the text of the program.
-/
namespace Go.Proofs.YtcoofnhdbejnpaaGreatDoor
open Go
theorem settled_card_holds : Rows.SettledCardSaid :=
  Claim7.holds_tied_plain_at .later [] [.data, .data, .data] true (true, "f2733e87251a474c41742e927a9d7f8a24398deaa213218e7e6105b0248c191c") true
    settled_holds (fun _ h => by cases h) (by kernel_rfl) (fun _ h => by cases h) settled_row_tie rfl ⟨rfl, rfl⟩ (by kernel_rfl) rfl
    (fun f fn hf hfn => by
      obtain rfl : f = 9 := Option.some.inj ((show Tryz.prog.funcNamed Tryz.f9.name = some 9 by kernel_rfl).symm.trans hf) |>.symm
      obtain rfl : fn = Tryz.f9 := (Option.some.inj (Tryz.func9.symm.trans hfn)).symm
      exact ⟨by kernel_rfl, fun j t ht => by
        rw [Tryz.params9] at ht
        have hm : t ∈ [9, 4, 4, 58] := by simpa using Array.mem_of_getElem? ht
        have hall : ([9, 4, 4, 58].all fun u => !Tryz.prog.wantsStandIn u) = true := by kernel_rfl
        exact (show Tryz.prog.wantsStandIn t = false by simpa using List.all_eq_true.1 hall t hm)⟩)
    (by kernel_rfl)
end Go.Proofs.YtcoofnhdbejnpaaGreatDoor

