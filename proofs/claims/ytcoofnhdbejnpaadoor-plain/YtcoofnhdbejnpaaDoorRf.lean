/- Package panes: Plan. -/
import Derived.Test.YtcoofnhdbejnpaaDoorRe
import Derived.Test.YtcoofnhdbejnpaaDoorPlainA
namespace Go.Proofs.YtcoofnhdbejnpaaDoor
open Go.RowKit
/-- what Plan answers -/
def planTxt (l : Pq.Bytes) : Pq.Bytes := if Pq.readE l = 0 then Pq.plainTxt (Pq.endPS l) else []
def planP (l : Pq.Bytes) : Int := if Pq.readE l = 0 then 0 else Pq.readP l
set_option maxHeartbeats 1000000 in
theorem plan_any (s : ByteArray) (w : World) (hs : s.size ≤ maxLen) :
    Calls Tryd.prog 8 #[.string s] w fun e w' => e = .returned (.tuple #[.string ⟨(planTxt s.data.toList).toArray⟩, .int .i64 (Pq.readE s.data.toList), .int .i64 (planP s.data.toList)]) ∧ Below w.heap.size w w' := by
  have HT := hide (Pq.lexFrom_good s.data.toList 0)
  go_enter Tryd.func8, Tryd.ntmps8
  go_wp2_with fail
  refine (read_any s _ hs).mono ?_
  rintro e w1 ⟨b1, h1⟩
  rcases h1 with ⟨hne, rfl⟩ | ⟨h0, vb, vk, vf, rfl, o1, o2, o3, l1, l2, l3⟩
  · have HP : Hid (planTxt s.data.toList = [] ∧ planP s.data.toList = Pq.readP s.data.toList) := by show _ ∧ _; simp [planTxt, planP, hne]
    generalize hee : Pq.readE s.data.toList = ee at *
    generalize hpp : Pq.readP s.data.toList = pp at *
    have HEE := hide hee
    clear hee hpp
    have hne' : (ee != 0) = true := by simp [hne]
    clear hne
    go_wp2
    go_ret3
    rw [HP.out.1, HP.out.2, HEE.out]
    exact ⟨rfl, b1.alloc b1.size _⟩
  · have HP : Hid (planTxt s.data.toList = Pq.plainTxt (Pq.endPS s.data.toList) ∧ planP s.data.toList = 0) := by show _ ∧ _; simp [planTxt, planP, h0]
    have HG := hide (Pq.end_good (toks := Pq.toksOf s.data.toList) HT.out s.data.toList.length)
    have HGD : Hid (GoodPS (Pq.endPS s.data.toList)) := ⟨HG.out.1, HG.out.2.1, HG.out.2.2.1, HG.out.2.2.2.1, HG.out.2.2.2.2, l1, l2, l3⟩
    have H0 := hide h0
    clear HG h0 l1 l2 l3 HT
    obtain ⟨a1, p1, rfl⟩ := own_slice o1
    obtain ⟨a2, p2, rfl⟩ := own_slice o2
    obtain ⟨a3, p3, rfl⟩ := own_slice o3
    have O1 := hide o1
    have O2 := hide o2
    have O3 := hide o3
    clear o1 o2 o3
    go_wp2_with fail
    refine (plain_any (O1.out.alloc _) (O2.out.alloc _) (O3.out.alloc _) HGD.out).mono ?_
    rintro e w2 ⟨rfl, b2⟩
    have B2 : Below w.heap.size w w2 := (b1.alloc b1.size _).trans (b2.mono (by have := b1.size; simp; omega))
    clear b2
    go_wp2
    go_ret3
    rw [HP.out.1, HP.out.2, H0.out]
    exact ⟨rfl, B2⟩
end Go.Proofs.YtcoofnhdbejnpaaDoor
