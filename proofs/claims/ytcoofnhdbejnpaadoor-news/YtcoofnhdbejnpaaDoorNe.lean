/-
  For every script (a list of steps): paneslaw.News returns true, and the script reads afterwards as before. Conditions: the five variables of math/bits, internal/strconv and strconv that the road names start as the program's text lays them (the card ties them).
-/
import Derived.Test.YtcoofnhdbejnpaaDoorRows
import Derived.Test.YtcoofnhdbejnpaaDoorNd
import Derived.Test.YtcoofnhdbejnpaaDoorWy
import Derived.ProofKit
import Derived.LaidMore
import Derived.OpenShut
import Derived.ShutString
import Derived.Stop.Joined
import Derived.Deep.Slices
import Derived.WideKeyArgs
namespace Go.Proofs.YtcoofnhdbejnpaaDoor
open Go.ChangeShapes Go.WideShapes Go.ChangeAt Go.RowKit Go.Deep
theorem bytesOp : Tryd.prog.bytesOf 25 = 72 := by kernel_rfl
theorem script_len {H : Type} {el sp : List (DataW H)} {ts : List TypeId} {r : List (DataW H)} (h : (DataW.weightsEach Tryd.prog (#[22].toList ++ ts) (DataW.slice el sp :: [] ++ r)).all (· ≤ reachBytes) = true) : el.length * 72 ≤ 140737488351232 := by
  simp only [List.cons_append, List.nil_append, DataW.weightsEach, DataW.weights, Tryd.underlying22, bytesOp, List.all_cons, Bool.and_eq_true, decide_eq_true_eq] at h
  have h1 := h.1
  have : reachBytes = 140737488351232 := rfl
  omega
theorem news_door (os : Os) (args : Array Value) : laidMetH Tryd.prog Rows.newsRow.laid ((World.doorLaid Tryd.prog 100 os).forCall (fun _ _ => 0) ⟨#[], args, []⟩).memory :=
  laidMetH_of_parts3 (fuel := 8) (laidMet_of_run' 8 (by kernel_rfl) (by kernel_rfl)) (by kernel_rfl) (by kernel_rfl)
set_option maxRecDepth 100000 in
theorem news_lifted (os : Os) (started : os.Started) (H : Type) (enc : TypeId × Value → H) :
    ReturnsInHanded {} Tryd.checked os 5 .any (fun w args => (Rows.newsSpec.pre enc Tryd.prog Tryd.f5 [] false w args ∧ laidMetH Tryd.prog Rows.newsRow.laid w) ∧ sizedMet enc Tryd.prog Tryd.f5 (OpenSpec.ofChange Rows.newsSpec) false w args)
      (Rows.newsSpec.post enc Tryd.prog Tryd.f5 false true false false) := by
  refine returnsInHanded_of_change_and (C := Tryd.checked) (X := fun w _ => laidMetH Tryd.prog Rows.newsRow.laid w) (fun _ _ _ hh h => h.of_heap hh) own started (by kernel_rfl) Tryd.func5
    (ChangeSpec.witness_shaped (enc := enc) (C := Tryd.checked) (os := os) (X := fun w _ => laidMetH Tryd.prog Rows.newsRow.laid w) false (World.doorLaid Tryd.prog 100 os) #[.slice none 0 0] 8 rfl (World.shaped_of_RefB (by kernel_rfl) (by kernel_rfl)) (by kernel_rfl) (by kernel_rfl) (by kernel_rfl) (news_door os _)) ?_
  intro W base args ds gs before hval0 hW _ hwt0 _ _
  have hwt : (DataW.weightsEach Tryd.prog (Tryd.f5.params.toList ++ Rows.newsSpec.plain.varTypes Tryd.prog) (ds ++ gs)).all (· ≤ reachBytes) = true := hwt0
  clear hwt0
  have hval : ∀ (j : Nat) t v, Tryd.f5.params[j]? = some t → args[j]? = some v → Value.okWide Tryd.prog W .any base t v := hval0
  have hW' := hW
  obtain ⟨p, q, hA0, hV, rfl, hfz, hnd⟩ := hW
  have hA : DataW.TrodAll enc Tryd.prog W 0 (fun _ => true) true Tryd.f5.params.toList args.toList ds p := hA0
  rw [Tryd.params5] at hA hval hwt
  obtain ⟨v0, vs0, d0, ds0, p0, q0, hargs, rfl, rfl, h0, r0⟩ := trodAll_cons hA
  obtain ⟨rfl, rfl, rfl⟩ := trodAll_nil r0
  obtain rfl : args = #[v0] := by cases args; simp_all
  obtain ⟨rfl, rfl⟩ := trodVars_none hV
  have h0k := h0
  obtain ⟨a0, len, cap, rfl⟩ := okWide_slice Tryd.underlying22 (hval 0 22 v0 rfl rfl)
  obtain ⟨fuel, hf⟩ := h0
  clear hA0 hval0
  simp only [List.append_nil] at hW'
  have hlt : ∀ x ∈ p0, x.block < W.heap.size := fun x hx => hW'.lt x (by simpa using hx)
  have tail : ∀ W' : World, Below W.heap.size W W' → Rows.newsSpec.post enc Tryd.checked.prog Tryd.f5 false true false false W #[.slice a0 len cap] (.bool true) W' := by
    intro W' hb
    refine ⟨_, _, _, [], p0, [], hW', trodAll_cons_mk (shut_bool Tryd.underlying4 _) trodAll_mk0, ?_, rfl, hb.frame _, fun h => by cases h⟩
    exact trodAll_mk1 (WideElems.Trod_stays laidOut (by kernel_rfl) (of_decide_eq_true (by kernel_rfl)) h0k (fun x hx => hb.same (hlt x hx)) (fun x hx => by simpa using hlt x hx))
  rcases open_slice Tryd.underlying22 hf with ⟨hcs, hx⟩ | ⟨a, len', cap', m, n, D, Pl, hcs, hb, hl, hm, hmm, hx, hel⟩
  · simp [Value.cells] at hcs
    obtain ⟨rfl, rfl, rfl⟩ := hcs
    refine (news_walk0 W).mono fun e W' ⟨he, hb⟩ => ?_
    subst he
    exact ⟨_, rfl, tail W' hb⟩
  · simp [Value.cells] at hcs
    obtain ⟨rfl, rfl, rfl⟩ := hcs
    have hlen : len ≤ 1954687338268 := by
      have e : d0 = _ := congrArg Prod.fst hx
      rw [e] at hwt
      have := script_len hwt
      simp at this
      omega
    simp only [if_true] at hmm
    subst hmm
    rw [cellsOp] at hel
    have hc : ∀ i, i < len → W.cell? (a.add (i * 6)) = some (.int .i64 (opK W a i)) ∧ W.cell? (a.add (i * 6 + 4)) = some (.string (opS W a i)) ∧ (opS W a i).size ≤ maxLen := fun i hi => by
      obtain ⟨cs', h1, h2⟩ := hel i (by omega)
      exact op_cells h1 h2
    have ha : 0 < len → a.block < W.heap.size := fun h => by
      obtain ⟨cs', h1, h2⟩ := hel 0 (by omega)
      have := World.cells?_block h1 (by decide)
      simpa [Addr.add] using this
    refine (news_walk a len m (opK W a) (opS W a) W hlen ha hc).mono fun e W' ⟨he, hb⟩ => ?_
    subst he
    exact ⟨_, rfl, tail W' hb⟩
theorem news_holds : Rows.NewsSaid :=
  OpenClaim.holds_of_wide 5 Tryd.f5 rfl rfl rfl rfl rfl rfl rfl ⟨rfl, rfl, rfl, rfl, rfl⟩ rfl rfl rfl rfl rfl (by kernel_rfl) Tryd.func5 (by kernel_rfl)
    (of_decide_eq_true (by kernel_rfl)) (by unfold Func.isWrapper; first | (rw [if_pos (by decide +kernel)]; kernel_rfl) | (rw [if_neg (by decide +kernel)]; exact ⟨rfl, rfl⟩))
    (fun os started H enc _ => news_lifted os started H enc)
end Go.Proofs.YtcoofnhdbejnpaaDoor
