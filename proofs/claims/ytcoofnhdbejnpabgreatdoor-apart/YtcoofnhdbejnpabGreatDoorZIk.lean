/-
  For all texts of raw bytes and all lists of raw bytes: paneskeep.Apart returns true, and its arguments read afterwards as before. Conditions: the three tables of math/bits and internal/strconv that the road names start as the text of the program lays them (the card ties them).
-/
import Derived.Test.YtcoofnhdbejnpabGreatDoorRows
import Derived.ProofKit
import Derived.LaidMore
import Derived.OpenShut
import Derived.ShutString
import Derived.Stop.Joined
import Derived.Deep.Slices
import Derived.WideKeyArgs
import Derived.Test.YtcoofnhdbejnpabGreatDoorG46
import Derived.Test.YtcoofnhdbejnpabGreatDoorCards
import Derived.Test.YtcoofnhdbejnpabGreatDoorTie
import Derived.SevenTiedAt
namespace Go.Proofs.YtcoofnhdbejnpabGreatDoor
open Go.ChangeShapes Go.WideShapes Go.ChangeAt Go.RowKit Go.Deep
open Go.ChangeMaps (open_string shut_string)
theorem kown : ownKnob Tryz.prog.godebug = none := by kernel_rfl
theorem klaidOut : laidOutB Tryz.prog = true := by kernel_rfl
theorem kcellsStr : Tryz.prog.cellsOf 9 = 1 := by kernel_rfl
def strAt (w : World) (a : Addr) (i : Nat) : ByteArray := match w.cell? (a.add i) with | some (.string s) => s | _ => ByteArray.empty
theorem strAt_of {H : Type} {enc : TypeId × Value → H} {W : World} {a : Addr} {i n : Nat} {v : Value} {x : DataW H × List MemPlace} (hc : W.cell? (a.add i) = some v) (ht : DataW.trod enc Tryz.prog W 0 (fun _ => true) true n 9 [v] = some x) : W.cell? (a.add i) = some (.string (strAt W a i)) ∧ (strAt W a i).size ≤ maxLen := by
  obtain ⟨s, hs, _, hsz⟩ := DataW.trod_string Tryz.underlying9 ht
  have e : v = .string s := by simpa using hs
  subst e
  have : strAt W a i = s := by unfold strAt; rw [hc]
  rw [this]
  exact ⟨hc, hsz⟩
theorem kbytesStr : Tryz.prog.bytesOf 9 = 16 := by kernel_rfl
set_option maxRecDepth 100000 in
set_option maxHeartbeats 1000000 in
theorem strs_open {H : Type} {enc : TypeId × Value → H} {W : World} {base : Nat} {v : Value} {d : DataW H} {p : List MemPlace} (hval : Value.okWide Tryz.prog W .any base 22 v) (h : DataW.Trod enc Tryz.prog W 0 (fun _ => true) true 22 v d p) (hw : (d.weights Tryz.prog 22).all (· ≤ reachBytes) = true) :
    ∃ (len : Nat) (S : Nat → ByteArray), ((v = .slice none 0 0 ∧ len = 0) ∨ ∃ a cap, v = .slice (some a) len cap ∧ ∀ i, i < len → a.block < W.heap.size ∧ W.cell? (a.add i) = some (.string (S i)) ∧ (S i).size ≤ maxLen) ∧ len ≤ 1000000000000000 := by
  obtain ⟨x3, len, cap, rfl⟩ := okWide_slice Tryz.underlying22 hval
  obtain ⟨fuel, hf⟩ := h
  rcases open_slice1 Tryz.underlying22 kcellsStr hf with ⟨hcs, hx⟩ | ⟨a, len', cap', m, n, V, D, Pl, hcs, hb, hl, hm, hmm, hx, hel⟩
  · simp [Value.cells] at hcs
    obtain ⟨rfl, rfl, rfl⟩ := hcs
    exact ⟨0, fun _ => ByteArray.empty, .inl ⟨rfl, rfl⟩, by omega⟩
  · simp [Value.cells] at hcs
    obtain ⟨rfl, rfl, rfl⟩ := hcs
    have hlen : len ≤ 1000000000000000 := by
      have e : d = _ := congrArg Prod.fst hx
      rw [e] at hw
      simp only [DataW.weights, Tryz.underlying22, kbytesStr, List.all_cons, List.all_append, Bool.and_eq_true, decide_eq_true_eq] at hw
      have hr : reachBytes = 140737488351232 := rfl
      simp at hw
      omega
    simp only [if_true] at hmm
    subst hmm
    refine ⟨len, strAt W a, .inr ⟨a, m, rfl, fun i hi => ?_⟩, hlen⟩
    obtain ⟨h1, h2⟩ := hel i (by omega)
    obtain ⟨h3, h4⟩ := strAt_of h1 h2
    refine ⟨?_, h3, h4⟩
    have := World.cell?_lt h3
    unfold Addr.add at this
    split at this <;> exact this
theorem apart_door (os : Os) (args : Array Value) : laidMetH Tryz.prog Rows.apartRow.laid ((World.doorLaid Tryz.prog 100 os).forCall (fun _ _ => 0) ⟨#[], args, []⟩).memory :=
  laidMetH_of_parts3 (fuel := 8) (laidMet_of_run' 8 (by kernel_rfl) (by kernel_rfl)) (by kernel_rfl) (by kernel_rfl)
set_option maxRecDepth 100000 in
set_option maxHeartbeats 1000000 in
theorem apart_lifted (os : Os) (started : os.Started) (H : Type) (enc : TypeId × Value → H) :
    ReturnsInHanded {} Tryz.checked os 4 .any (fun w args => (Rows.apartSpec.pre enc Tryz.prog Tryz.f4 [] false w args ∧ laidMetH Tryz.prog Rows.apartRow.laid w) ∧ sizedMet enc Tryz.prog Tryz.f4 (OpenSpec.ofChange Rows.apartSpec) false w args)
      (Rows.apartSpec.post enc Tryz.prog Tryz.f4 false true false false) := by
  refine returnsInHanded_of_change_and (C := Tryz.checked) (X := fun w _ => laidMetH Tryz.prog Rows.apartRow.laid w) (fun _ _ _ hh h => h.of_heap hh) kown started (by kernel_rfl) Tryz.func4
    (ChangeSpec.witness_shaped (enc := enc) (C := Tryz.checked) (os := os) (X := fun w _ => laidMetH Tryz.prog Rows.apartRow.laid w) false (World.doorLaid Tryz.prog 100 os) #[.string ByteArray.empty, .string ByteArray.empty, .slice none 0 0, .slice none 0 0] 8 rfl (World.shaped_of_RefB (by kernel_rfl) (by kernel_rfl)) (by kernel_rfl) (by kernel_rfl) (by kernel_rfl) (apart_door os _)) ?_
  intro W base args ds gs before hval0 hW _ hwt0 _ _
  have hwt : (DataW.weightsEach Tryz.prog (Tryz.f4.params.toList ++ Rows.apartSpec.plain.varTypes Tryz.prog) (ds ++ gs)).all (· ≤ reachBytes) = true := hwt0
  clear hwt0
  have hval : ∀ (j : Nat) t v, Tryz.f4.params[j]? = some t → args[j]? = some v → Value.okWide Tryz.prog W .any base t v := hval0
  have hW' := hW
  obtain ⟨p, q, hA0, hV, rfl, hfz, hnd⟩ := hW
  have hA : DataW.TrodAll enc Tryz.prog W 0 (fun _ => true) true Tryz.f4.params.toList args.toList ds p := hA0
  rw [Tryz.params4] at hA hval hwt
  obtain ⟨v0, vs0, d0, ds0, p0, q0, hargs, rfl, rfl, h0, r0⟩ := trodAll_cons hA
  obtain ⟨v1, vs1, d1, ds1, p1, q1, rfl, rfl, rfl, h1, r1⟩ := trodAll_cons r0
  obtain ⟨v2, vs2, d2, ds2, p2, q2, rfl, rfl, rfl, h2, r2⟩ := trodAll_cons r1
  obtain ⟨v3, vs3, d3, ds3, p3, q3, rfl, rfl, rfl, h3, r3⟩ := trodAll_cons r2
  obtain ⟨rfl, rfl, rfl⟩ := trodAll_nil r3
  obtain rfl : args = #[v0, v1, v2, v3] := by cases args; simp_all
  obtain ⟨rfl, rfl⟩ := trodVars_none hV
  obtain ⟨a0, rfl, rfl, rfl, w0⟩ := open_string Tryz.underlying9 (hval 0 9 v0 rfl rfl) h0
  obtain ⟨a1, rfl, rfl, rfl, w1⟩ := open_string Tryz.underlying9 (hval 1 9 v1 rfl rfl) h1
  simp only [List.cons_append, List.nil_append, List.append_nil, DataW.weightsEach, List.all_append, Bool.and_eq_true] at hwt
  have hq2 : (d2.weights Tryz.prog 22).all (· ≤ reachBytes) = true := hwt.2.2.1
  have hq3 : (d3.weights Tryz.prog 22).all (· ≤ reachBytes) = true := hwt.2.2.2.1
  obtain ⟨len2, S2, hs2, hl2⟩ := strs_open (hval 2 22 v2 rfl rfl) h2 hq2
  obtain ⟨len3, S3, hs3, _⟩ := strs_open (hval 3 22 v3 rfl rfl) h3 hq3
  clear hA0 hval0
  simp only [List.append_nil, List.nil_append] at hW'
  have hlt : ∀ x ∈ p2 ++ p3, x.block < W.heap.size := fun x hx => hW'.lt x (by simpa using hx)
  refine (apart_walk a0 a1 v2 len2 S2 v3 len3 S3 W w0 w1 hl2 hs2 hs3).mono fun e W' ⟨he, hb⟩ => ?_
  subst he
  refine ⟨_, rfl, _, _, _, [], [] ++ ([] ++ (p2 ++ (p3 ++ []))), [], hW', trodAll_cons_mk (shut_bool Tryz.underlying4 _) trodAll_mk0, ?_, rfl, hb.frame _, fun h => by cases h⟩
  exact trodAll_cons_mk (shut_string Tryz.underlying9 w0) (trodAll_cons_mk (shut_string Tryz.underlying9 w1) (trodAll_cons_mk (WideElems.Trod_stays klaidOut (by kernel_rfl) (of_decide_eq_true (by kernel_rfl)) h2 (fun x hx => hb.same (hlt x (List.mem_append.2 (.inl hx)))) (fun x hx => by simpa using hlt x (List.mem_append.2 (.inl hx)))) (trodAll_cons_mk (WideElems.Trod_stays klaidOut (by kernel_rfl) (of_decide_eq_true (by kernel_rfl)) h3 (fun x hx => hb.same (hlt x (List.mem_append.2 (.inr hx)))) (fun x hx => by simpa using hlt x (List.mem_append.2 (.inr hx)))) trodAll_mk0)))
theorem apart_holds : Rows.ApartSaid :=
  OpenClaim.holds_of_wide 4 Tryz.f4 rfl rfl rfl rfl rfl rfl rfl ⟨rfl, rfl, rfl, rfl, rfl⟩ rfl rfl rfl rfl rfl (by kernel_rfl) Tryz.func4 (by kernel_rfl)
    (of_decide_eq_true (by kernel_rfl)) (by unfold Func.isWrapper; first | (rw [if_pos (by decide +kernel)]; kernel_rfl) | (rw [if_neg (by decide +kernel)]; exact ⟨rfl, rfl⟩))
    (fun os started H enc _ => apart_lifted os started H enc)
end Go.Proofs.YtcoofnhdbejnpabGreatDoor

/-
  For all texts of raw bytes and all lists of raw bytes: paneskeep.Apart returns true, and its arguments read afterwards as before. No condition beyond the tie: the three tables of math/bits and internal/strconv that the road names are tied to the text of the program.
-/
namespace Go.Proofs.YtcoofnhdbejnpabGreatDoor
open Go
theorem apart_card_holds : Rows.ApartCardSaid :=
  Claim7.holds_tied_plain_at .later [] [.data, .data, .data] true (true, "35cb3611e6ec8631c9b87fa9446456580db0c70a05689f58e83cb988c4b9f4df") true
    apart_holds (fun _ h => by cases h) (by kernel_rfl) (fun _ h => by cases h) apart_row_tie rfl ⟨rfl, rfl⟩ (by kernel_rfl) rfl
    (fun f fn hf hfn => by
      obtain rfl : f = 4 := Option.some.inj ((show Tryz.prog.funcNamed Tryz.f4.name = some 4 by kernel_rfl).symm.trans hf) |>.symm
      obtain rfl : fn = Tryz.f4 := (Option.some.inj (Tryz.func4.symm.trans hfn)).symm
      exact ⟨by kernel_rfl, fun j t ht => by
        rw [Tryz.params4] at ht
        have hm : t ∈ [9, 9, 22, 22] := by simpa using Array.mem_of_getElem? ht
        have hall : ([9, 9, 22, 22].all fun u => !Tryz.prog.wantsStandIn u) = true := by kernel_rfl
        exact (show Tryz.prog.wantsStandIn t = false by simpa using List.all_eq_true.1 hall t hm)⟩)
    (by kernel_rfl)
end Go.Proofs.YtcoofnhdbejnpabGreatDoor

