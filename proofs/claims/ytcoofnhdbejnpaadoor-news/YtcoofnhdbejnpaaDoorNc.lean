/- Package paneslaw: made: New of both sides: true, and a view more on each side where there is one. -/
import Derived.Test.YtcoofnhdbejnpaaDoorNa
import Derived.Test.YtcoofnhdbejnpaaDoorNb
import Derived.Test.YtcoofnhdbejnpaaDoorBt
namespace Go.Proofs.YtcoofnhdbejnpaaDoor
open Go.RowKit
/-- the world's lists: its block -/
def wObj (vx vy r2 r3 r4 r5 r6 r7 : Value) : Obj := .cells #[vx, vy, r2, r3, r4, r5, r6, r7] 42 (0, 0)
theorem infoXP : (Tryd.prog.info? 60).map (fun i => (i.zero, i.size, i.bytes)) = some (some (.pointer none), 1, 8) := by kernel_rfl
theorem infoYP : (Tryd.prog.info? 63).map (fun i => (i.zero, i.size, i.bytes)) = some (some (.pointer none), 1, 8) := by kernel_rfl
/-- the world's block and its two lists of views -/
structure MW (w : World) (b B : Nat) (vx vy r2 r3 r4 r5 r6 r7 : Value) (n m : Nat) (xs ys : List Value) : Prop where
  blk : w.heap[b]? = some (wObj vx vy r2 r3 r4 r5 r6 r7)
  ox : w.ownsRow B 60 1 vx n xs
  oy : w.ownsRow B 63 1 vy m ys
  dis : ∀ g, vx.ownBlock = some g → vy.ownBlock ≠ some g
  bB : b < B
  sz : B ≤ w.heap.size
theorem MW.pushX {w w6 : World} {o : Obj} {b B n m : Nat} {vx vy vx' r2 r3 r4 r5 r6 r7 : Value} {xs ys xs' : List Value} (h : MW w b B vx vy r2 r3 r4 r5 r6 r7 n m xs ys) (hg : (w.alloc o).grownBy w6 vx.ownBlock)
    (ho : w6.ownsRow B 60 1 vx' (n + 1) xs') {g : Nat} (hv : vx'.ownBlock = some g) (hat : vx.ownBlock = some g ∨ g = w.heap.size + 1) :
    w6.heap[b]? = some (wObj vx vy r2 r3 r4 r5 r6 r7) ∧ MW (w6.setCell ⟨b, 0, none⟩ vx') b B vx' vy r2 r3 r4 r5 r6 r7 (n + 1) m xs' ys ∧ But (fun k => k = b ∨ vx.ownBlock = some k) w (w6.setCell ⟨b, 0, none⟩ vx') ∧ (∀ g, vx'.ownBlock = some g → vx.ownBlock = some g ∨ w.heap.size ≤ g) := by
  have hp := But.push hg
  have hbl := (Array.getElem?_eq_some_iff.1 h.blk).1
  have h6 : w6.heap[b]? = some (wObj vx vy r2 r3 r4 r5 r6 r7) := by
    rw [hp.block b hbl (fun e => by have := own_at h.ox e; have := h.bB; omega)]; exact h.blk
  have hnew : ∀ g, vx'.ownBlock = some g → vx.ownBlock = some g ∨ w.heap.size ≤ g := fun g' e => by
    rw [hv] at e; cases e
    rcases hat with e | e
    · exact .inl e
    · exact .inr (by omega)
  refine ⟨h6, ⟨?_, ?_, ?_, ?_, h.bB, ?_⟩, hp.set b 0 vx', hnew⟩
  · simp [World.setCell, Array.getElem?_modify, h6, wObj]
  · exact own_but ho ((But.set (S := fun _ => False) ⟨rfl, rfl, rfl, Nat.le_refl _, fun _ _ _ => rfl⟩ b 0 vx')) (fun k e => by have := own_at ho e; have := h.bB; simp; omega)
  · exact own_but h.oy (hp.set b 0 vx') (fun k e => by
      have h1 := own_at h.oy e
      have h2 := h.bB
      rintro (e2 | e2)
      · omega
      · exact h.dis k e2 e)
  · intro k e e2
    rcases hnew k e with e3 | e3
    · exact h.dis k e3 e2
    · have := own_at h.oy e2; omega
  · exact Nat.le_trans h.sz (hp.set b 0 vx').size
theorem MW.pushY {w w6 : World} {o : Obj} {b B n m : Nat} {vx vy vy' r2 r3 r4 r5 r6 r7 : Value} {xs ys ys' : List Value} (h : MW w b B vx vy r2 r3 r4 r5 r6 r7 n m xs ys) (hg : (w.alloc o).grownBy w6 vy.ownBlock)
    (ho : w6.ownsRow B 63 1 vy' (m + 1) ys') {g : Nat} (hv : vy'.ownBlock = some g) (hat : vy.ownBlock = some g ∨ g = w.heap.size + 1) :
    w6.heap[b]? = some (wObj vx vy r2 r3 r4 r5 r6 r7) ∧ MW (w6.setCell ⟨b, 1, none⟩ vy') b B vx vy' r2 r3 r4 r5 r6 r7 n (m + 1) xs ys' ∧ But (fun k => k = b ∨ vy.ownBlock = some k) w (w6.setCell ⟨b, 1, none⟩ vy') ∧ (∀ g, vy'.ownBlock = some g → vy.ownBlock = some g ∨ w.heap.size ≤ g) := by
  have hp := But.push hg
  have hbl := (Array.getElem?_eq_some_iff.1 h.blk).1
  have h6 : w6.heap[b]? = some (wObj vx vy r2 r3 r4 r5 r6 r7) := by
    rw [hp.block b hbl (fun e => by have := own_at h.oy e; have := h.bB; omega)]; exact h.blk
  have hnew : ∀ g, vy'.ownBlock = some g → vy.ownBlock = some g ∨ w.heap.size ≤ g := fun g' e => by
    rw [hv] at e; cases e
    rcases hat with e | e
    · exact .inl e
    · exact .inr (by omega)
  refine ⟨h6, ⟨?_, ?_, ?_, ?_, h.bB, ?_⟩, hp.set b 1 vy', hnew⟩
  · simp [World.setCell, Array.getElem?_modify, h6, wObj]
  · exact own_but h.ox (hp.set b 1 vy') (fun k e => by
      have h1 := own_at h.ox e
      have h2 := h.bB
      rintro (e2 | e2)
      · omega
      · exact h.dis k e e2)
  · exact own_but ho ((But.set (S := fun _ => False) ⟨rfl, rfl, rfl, Nat.le_refl _, fun _ _ _ => rfl⟩ b 1 vy')) (fun k e => by have := own_at ho e; have := h.bB; simp; omega)
  · intro k e e2
    rcases hnew k e2 with e3 | e3
    · exact h.dis k e e3
    · have := own_at h.ox e; omega
  · exact Nat.le_trans h.sz (hp.set b 1 vy').size
/-- a view more on each side -/
def MadeOk (l : Pq.Bytes) (w : World) (b B n : Nat) (vx vy r2 r3 r4 r5 r6 r7 : Value) (xs ys : List Value) (w' : World) : Prop :=
  ∃ w2 gx gy vx' vy' vb vk vf yb yk yf P vals, Below w.heap.size w w2 ∧ But (fun k => k = b ∨ vx.ownBlock = some k ∨ vy.ownBlock = some k) w2 w' ∧
    w.heap.size ≤ gx ∧ gx < gy ∧ gy < w2.heap.size ∧
    w2.heap[gx]? = some (.cells (xView vb vk vf (Pq.endPS l) (.slice none 0 0)) 93 (0, 0)) ∧
    w2.heap[gy]? = some (.cells (yView yb yk yf P (.slice none 0 0)) 95 (0, 0)) ∧ YRd l w.heap.size w2 yb yk yf P vals ∧
    w'.heap[b]? = some (wObj vx' vy' r2 r3 r4 r5 r6 r7) ∧
    w'.ownsRow B 60 1 vx' (n + 1) (xs ++ [.pointer (some ⟨gx, 0, none⟩)]) ∧ w'.ownsRow B 63 1 vy' (n + 1) (ys ++ [.pointer (some ⟨gy, 0, none⟩)]) ∧
    (∀ g, vx'.ownBlock = some g → vy'.ownBlock ≠ some g) ∧ (∀ g, vx'.ownBlock = some g → vx.ownBlock = some g ∨ w2.heap.size ≤ g) ∧ (∀ g, vy'.ownBlock = some g → vy.ownBlock = some g ∨ w2.heap.size ≤ g)
def MadePost (l : Pq.Bytes) (w : World) (b B n : Nat) (vx vy r2 r3 r4 r5 r6 r7 : Value) (xs ys : List Value) (e : Ending) (w' : World) : Prop :=
  e = .returned (.bool true) ∧ ((Pq.readE l ≠ 0 ∧ Below w.heap.size w w') ∨ (Pq.readE l = 0 ∧ MadeOk l w b B n vx vy r2 r3 r4 r5 r6 r7 xs ys w'))
set_option maxRecDepth 100000 in
set_option maxHeartbeats 2000000 in
theorem made_any (s : ByteArray) (w : World) (hs : s.size ≤ maxLen) {b B n : Nat} {vx vy r2 r3 r4 r5 r6 r7 : Value} {xs ys : List Value}
    (hb : w.heap[b]? = some (wObj vx vy r2 r3 r4 r5 r6 r7)) (hx : w.ownsRow B 60 1 vx n xs) (hy : w.ownsRow B 63 1 vy n ys) (hB : b < B) (hBw : B ≤ w.heap.size)
    (hd : ∀ g, vx.ownBlock = some g → vy.ownBlock ≠ some g) (hn : n ≤ 8796093022208) :
    Calls Tryd.prog 9 #[.pointer (some ⟨b, 0, none⟩), .string s] w fun e w' => MadePost s.data.toList w b B n vx vy r2 r3 r4 r5 r6 r7 xs ys e w' := by
  have HB := hide hb
  have HX := hide hx
  have HY := hide hy
  have HD := hide hd
  clear hb hx hy hd
  go_enter Tryd.func9, Tryd.ntmps9
  go_wp2_with fail
  refine (new_any s _ hs).mono ?_
  rintro e w1 ⟨b1, h1⟩
  rcases h1 with ⟨hne, rfl⟩ | ⟨h0, gx, vb, vk, vf, hg1, hg2, rfl, hgx, hrest⟩
  · go_wp2_with fail
    refine (rnew_any s _ hs).mono ?_
    rintro e w2 ⟨b2, h2⟩
    rcases h2 with ⟨hne2, rfl⟩ | ⟨h0, _⟩
    · have HNE := hide hne
      have B2 := hide (b1.trans (b2.mono b1.size))
      clear b1 b2 hne hne2 HB HX HY HD
      generalize hee : Pq.readE s.data.toList = ee at *
      generalize Pq.readP s.data.toList = pp at *
      have HEE := hide hee
      clear hee
      have e1 : (ee != ee) = false := by simp
      have e2 : (pp != pp) = false := by simp
      go_wp2
      go_ret
      exact ⟨rfl, .inl ⟨by rw [HEE.out]; exact HNE.out, B2.out⟩⟩
    · exact absurd h0 hne
  · clear hrest
    go_wp2_with fail
    refine (rnew_any s _ hs).mono ?_
    rintro e w2 ⟨b2, h2⟩
    rcases h2 with ⟨hne, rfl⟩ | ⟨_, gy, yb, yk, yf, P, vals, hg3, hg4, rfl, hgy, hY⟩
    · exact absurd h0 hne
    · have B2 := b1.trans (b2.mono b1.size)
      have M2 : MW w2 b B vx vy r2 r3 r4 r5 r6 r7 n n xs ys := ⟨by rw [B2.block b (by omega)]; exact HB.out, own_below HX.out B2, own_below HY.out B2, HD.out, hB, Nat.le_trans hBw B2.size⟩
      obtain ⟨ax, nx, cx, rfl⟩ := own_sl M2.ox
      obtain ⟨ay, ny, cy, rfl⟩ := own_sl M2.oy
      have HM := hide M2
      have HB2 := hide B2
      have hgx2 : w2.heap[gx]? = some (.cells (xView vb vk vf (Pq.endPS s.data.toList) (.slice none 0 0)) 93 (0, 0)) := by rw [b2.block gx hg2]; exact hgx
      have HG := hide (And.intro hgx2 hgy)
      have HYR := hide (And.intro (show YRd s.data.toList w.heap.size w2 yb yk yf P vals from ⟨hY.1, hY.2.1, hY.2.2.1, hY.2.2.2.1, own_base hY.2.2.2.2.1 b1.size, hY.2.2.2.2.2⟩) (And.intro h0 (And.intro hg1 (And.intro (Nat.lt_of_lt_of_le hg2 hg3) hg4))))
      have q0 : w2.cell? ⟨b, 0, none⟩ = some (.slice ax nx cx) := cell_of_heap M2.blk 0
      have q0a : (w2.alloc (.cells #[.pointer (some ⟨gx, 0, none⟩)] 60)).cell? ⟨b, 0, none⟩ = some (.slice ax nx cx) := cell_of_heap (heap_keepAlloc M2.blk _) 0
      obtain ⟨i0, hi, hz0, hz1, hz2⟩ := info_parts infoXP
      have hsz := M2.sz
      clear hgx hgx2 hgy hY b1 b2 HB HX HY HD hg1 hg2 hg3 hg4 h0 B2 M2
      go_wp2_with (at_builtin; refine wpList_append_lies _ rfl (.tmp 44) (.tmp 46) 36 rfl B 60 i0 _ 1 8 Tryd.underlying36 hi hz0 hz1 hz2 rfl (by decide) _ n xs rfl (HM.out.ox.alloc _) _ 1 1 [.pointer (some ⟨gx, 0, none⟩)] rfl rfl (World.news_of_block (heap_alloc_new _ _)) (by intro u hu; simp at hu; rcases hu with rfl; rfl) (by decide) (by unfold maxLen; omega) (by omega) (by simp; omega) _ rfl ?_)
      intro g6 cap6 w6 hown6 hgrow6 hat6 hlt6
      obtain ⟨h6, m6, bt6, nw6⟩ := HM.out.pushX hgrow6 hown6 rfl hat6
      have y0 : w6.cell? ⟨b, 0, none⟩ = some (.slice ax nx cx) := cell_of_heap h6 0
      have z0 := free_of_heap h6 0
      have y1 : w6.cell? ⟨b, 1, none⟩ = some (.slice ay ny cy) := cell_of_heap h6 1
      have HM6 := hide m6
      have HT6 := hide (And.intro bt6 nw6)
      clear m6 bt6 nw6 hown6 hgrow6 hat6 hlt6 h6
      obtain ⟨j0, hj, hy0, hy1, hy2⟩ := info_parts infoYP
      have hsz6 : B ≤ w6.heap.size := by have := HM6.out.sz; simpa using this
      go_wp2_with (at_builtin; refine wpList_append_lies _ rfl (.tmp 54) (.tmp 56) 37 rfl B 63 j0 _ 1 8 Tryd.underlying37 hj hy0 hy1 hy2 rfl (by decide) _ n ys rfl (HM6.out.oy.alloc _) _ 1 1 [.pointer (some ⟨gy, 0, none⟩)] rfl rfl (World.news_of_block (alloc_at (by simp))) (by intro u hu; simp at hu; rcases hu with rfl; rfl) (by decide) (by unfold maxLen; omega) (by omega) (by simp; omega) _ rfl ?_)
      intro g7 cap7 w7 hown7 hgrow7 hat7 hlt7
      obtain ⟨h7, m7, bt7, nw7⟩ := HM6.out.pushY hgrow7 hown7 rfl (by simpa using hat7)
      have y7 : w7.cell? ⟨b, 1, none⟩ = some (.slice ay ny cy) := cell_of_heap h7 1
      have z7 := free_of_heap h7 1
      have HM7 := hide m7
      have HT7 := hide (And.intro bt7 nw7)
      clear m7 bt7 nw7 hown7 hgrow7 hat7 hlt7 h7
      go_wp2
      go_ret
      obtain ⟨t1, t2⟩ := HT6.out
      obtain ⟨t3, t4⟩ := HT7.out
      obtain ⟨k1, k2, k3, k4, k5⟩ := HYR.out
      refine ⟨rfl, .inr ⟨k2, w2, gx, gy, _, _, vb, vk, vf, yb, yk, yf, P, vals, HB2.out, ?_, k3, k4, k5, HG.out.1, HG.out.2, k1, HM7.out.blk, HM7.out.ox, HM7.out.oy, HM7.out.dis, t2, ?_⟩⟩
      · refine (t1.trans t3).weak ?_
        rintro k hk ((e | e) | ⟨e | e, _⟩)
        · exact .inl e
        · exact .inr (.inl e)
        · exact .inl e
        · exact .inr (.inr e)
      · intro g e
        rcases t4 g e with e | e
        · exact .inl e
        · exact .inr (Nat.le_trans t1.size e)
end Go.Proofs.YtcoofnhdbejnpaaDoor
