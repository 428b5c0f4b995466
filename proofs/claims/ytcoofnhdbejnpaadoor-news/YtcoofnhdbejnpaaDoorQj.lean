/- Package queries: readBy. -/
import Derived.Test.YtcoofnhdbejnpaaDoorQi
namespace Go.Proofs.YtcoofnhdbejnpaaDoor
open Go.RowKit
theorem PIn.cells3 {w : World} {b g cap len : Nat} {toks : List Pq.Tok} {vb vk vf : Value} {s : Pq.PS} (h : PIn w b g cap len toks vb vk vf s) : w.cell? ⟨b, 4, none⟩ = some vb ∧ w.cell? ⟨b, 5, none⟩ = some vk ∧ w.cell? ⟨b, 6, none⟩ = some vf := by
  simp [World.cell?, h.blk, psCells]
theorem PAl.pushBy {w : World} {B b g cap len : Nat} {toks : List Pq.Tok} {vb vk vf : Value} {s : Pq.PS} (h : PAl w B b g cap len toks vb vk vf s) (o : Obj) {w5 : World} {g1 cap1 : Nat} (x : Nat) (hown : w5.ownsRow B 107 1 (.slice (some ⟨g1, 0, none⟩) (s.by'.length + 1) cap1) (s.by'.length + 1) (colCells s.by' ++ [.int .i64 (x : Int)]))
    (hgrow : (w.alloc o).drew.grownBy w5 vb.ownBlock) (hl : s.by'.length ≤ s.next) (hBs : B ≤ w.heap.size) :
    PIn w5 b g cap len toks vb vk vf s ∧ PAl (w5.setCell ⟨b, 4, none⟩ (.slice (some ⟨g1, 0, none⟩) (s.by'.length + 1) cap1)) B b g cap len toks (.slice (some ⟨g1, 0, none⟩) (s.by'.length + 1) cap1) vk vf { s with by' := s.by' ++ [x] } ∧ Below B w (w5.setCell ⟨b, 4, none⟩ (.slice (some ⟨g1, 0, none⟩) (s.by'.length + 1) cap1)) := by
  have ha := (h.pin.alloc o).drew
  have hnb := own_ne h.oby h.pin.blk (by decide)
  obtain ⟨cur, hgc, _⟩ := h.pin.row
  have hng := own_ne h.oby hgc (by decide)
  have p5 : PIn w5 b g cap len toks vb vk vf s := ha.congr (hgrow.block b ha.lt.1 (Ne.symm hnb)) (hgrow.block g ha.lt.2 (Ne.symm hng))
  have p6 : PIn (w5.setCell ⟨b, 4, none⟩ (.slice (some ⟨g1, 0, none⟩) (s.by'.length + 1) cap1)) b g cap len toks (.slice (some ⟨g1, 0, none⟩) (s.by'.length + 1) cap1) vk vf { s with by' := s.by' ++ [x] } := p5.set 4 _ _ _ _ _ (by simp [psCells]) p5.le
  have G6 : Gb b w5 (w5.setCell ⟨b, 4, none⟩ (.slice (some ⟨g1, 0, none⟩) (s.by'.length + 1) cap1)) := (Gb.refl b w5).set _ _
  have kokey := own_Gb ((h.okey.alloc o).drew.kept hgrow (own_sep h.okey h.oby (by decide))) p5.blk (by decide) G6
  have kofun := own_Gb ((h.ofun.alloc o).drew.kept hgrow (own_sep h.ofun h.oby (by decide))) p5.blk (by decide) G6
  refine ⟨p5, ?_, ?_⟩
  · refine ⟨p6, ?_, ?_, ?_, ?_, ?_, ?_, h.hB⟩
    · have := own_Gb hown p5.blk (by decide) G6
      simpa [colCells] using this
    · exact kokey
    · exact kofun
    · simp only [List.length_append, List.length_cons, List.length_nil]; omega
    · exact h.lkey
    · exact h.lfun
  · exact (((Below.refl B w).alloc hBs o).drew.grown hgrow (by simp; omega) (fun k hk => (own_block h.oby hk).elim fun _ hx => hx.2)).setCell h.hB _

theorem PAl.pushKey {w : World} {B b g cap len : Nat} {toks : List Pq.Tok} {vb vk vf : Value} {s : Pq.PS} (h : PAl w B b g cap len toks vb vk vf s) (o : Obj) {w5 : World} {g1 cap1 : Nat} (x : Nat × Bool) (hown : w5.ownsRow B 109 2 (.slice (some ⟨g1, 0, none⟩) (s.keys.length + 1) cap1) (s.keys.length + 1) (keyCells s.keys ++ [.int .i64 (x.1 : Int), .bool x.2]))
    (hgrow : (w.alloc o).drew.grownBy w5 vk.ownBlock) (hl : s.keys.length ≤ s.next) (hBs : B ≤ w.heap.size) :
    PIn w5 b g cap len toks vb vk vf s ∧ PAl (w5.setCell ⟨b, 5, none⟩ (.slice (some ⟨g1, 0, none⟩) (s.keys.length + 1) cap1)) B b g cap len toks vb (.slice (some ⟨g1, 0, none⟩) (s.keys.length + 1) cap1) vf { s with keys := s.keys ++ [x] } ∧ Below B w (w5.setCell ⟨b, 5, none⟩ (.slice (some ⟨g1, 0, none⟩) (s.keys.length + 1) cap1)) := by
  have ha := (h.pin.alloc o).drew
  have hnb := own_ne h.okey h.pin.blk (by decide)
  obtain ⟨cur, hgc, _⟩ := h.pin.row
  have hng := own_ne h.okey hgc (by decide)
  have p5 : PIn w5 b g cap len toks vb vk vf s := ha.congr (hgrow.block b ha.lt.1 (Ne.symm hnb)) (hgrow.block g ha.lt.2 (Ne.symm hng))
  have p6 : PIn (w5.setCell ⟨b, 5, none⟩ (.slice (some ⟨g1, 0, none⟩) (s.keys.length + 1) cap1)) b g cap len toks vb (.slice (some ⟨g1, 0, none⟩) (s.keys.length + 1) cap1) vf { s with keys := s.keys ++ [x] } := p5.set 5 _ _ _ _ _ (by simp [psCells]) p5.le
  have G6 : Gb b w5 (w5.setCell ⟨b, 5, none⟩ (.slice (some ⟨g1, 0, none⟩) (s.keys.length + 1) cap1)) := (Gb.refl b w5).set _ _
  have koby := own_Gb ((h.oby.alloc o).drew.kept hgrow (own_sep h.oby h.okey (by decide))) p5.blk (by decide) G6
  have kofun := own_Gb ((h.ofun.alloc o).drew.kept hgrow (own_sep h.ofun h.okey (by decide))) p5.blk (by decide) G6
  refine ⟨p5, ?_, ?_⟩
  · refine ⟨p6, ?_, ?_, ?_, ?_, ?_, ?_, h.hB⟩
    · exact koby
    · have := own_Gb hown p5.blk (by decide) G6
      simpa [keyCells] using this
    · exact kofun
    · exact h.lby
    · simp only [List.length_append, List.length_cons, List.length_nil]; omega
    · exact h.lfun
  · exact (((Below.refl B w).alloc hBs o).drew.grown hgrow (by simp; omega) (fun k hk => (own_block h.okey hk).elim fun _ hx => hx.2)).setCell h.hB _

theorem PAl.pushFun {w : World} {B b g cap len : Nat} {toks : List Pq.Tok} {vb vk vf : Value} {s : Pq.PS} (h : PAl w B b g cap len toks vb vk vf s) (o : Obj) {w5 : World} {g1 cap1 : Nat} (x : Pq.Fn) (hown : w5.ownsRow B 118 9 (.slice (some ⟨g1, 0, none⟩) (s.funcs.length + 1) cap1) (s.funcs.length + 1) (fnCells s.funcs ++ fnCell x))
    (hgrow : (w.alloc o).drew.grownBy w5 vf.ownBlock) (hl : s.funcs.length ≤ s.next) (hBs : B ≤ w.heap.size) :
    PIn w5 b g cap len toks vb vk vf s ∧ PAl (w5.setCell ⟨b, 6, none⟩ (.slice (some ⟨g1, 0, none⟩) (s.funcs.length + 1) cap1)) B b g cap len toks vb vk (.slice (some ⟨g1, 0, none⟩) (s.funcs.length + 1) cap1) { s with funcs := s.funcs ++ [x] } ∧ Below B w (w5.setCell ⟨b, 6, none⟩ (.slice (some ⟨g1, 0, none⟩) (s.funcs.length + 1) cap1)) := by
  have ha := (h.pin.alloc o).drew
  have hnb := own_ne h.ofun h.pin.blk (by decide)
  obtain ⟨cur, hgc, _⟩ := h.pin.row
  have hng := own_ne h.ofun hgc (by decide)
  have p5 : PIn w5 b g cap len toks vb vk vf s := ha.congr (hgrow.block b ha.lt.1 (Ne.symm hnb)) (hgrow.block g ha.lt.2 (Ne.symm hng))
  have p6 : PIn (w5.setCell ⟨b, 6, none⟩ (.slice (some ⟨g1, 0, none⟩) (s.funcs.length + 1) cap1)) b g cap len toks vb vk (.slice (some ⟨g1, 0, none⟩) (s.funcs.length + 1) cap1) { s with funcs := s.funcs ++ [x] } := p5.set 6 _ _ _ _ _ (by simp [psCells]) p5.le
  have G6 : Gb b w5 (w5.setCell ⟨b, 6, none⟩ (.slice (some ⟨g1, 0, none⟩) (s.funcs.length + 1) cap1)) := (Gb.refl b w5).set _ _
  have koby := own_Gb ((h.oby.alloc o).drew.kept hgrow (own_sep h.oby h.ofun (by decide))) p5.blk (by decide) G6
  have kokey := own_Gb ((h.okey.alloc o).drew.kept hgrow (own_sep h.okey h.ofun (by decide))) p5.blk (by decide) G6
  refine ⟨p5, ?_, ?_⟩
  · refine ⟨p6, ?_, ?_, ?_, ?_, ?_, ?_, h.hB⟩
    · exact koby
    · exact kokey
    · have := own_Gb hown p5.blk (by decide) G6
      simpa [fnCells] using this
    · exact h.lby
    · exact h.lkey
    · simp only [List.length_append, List.length_cons, List.length_nil]; omega
  · exact (((Below.refl B w).alloc hBs o).drew.grown hgrow (by simp; omega) (fun k hk => (own_block h.ofun hk).elim fun _ hx => hx.2)).setCell h.hB _

/-- the place at which the parser in block b stands -/
def nextAt (w : World) (b : Nat) : Nat := match w.cell? ⟨b, 2, none⟩ with | some v => (intOf v).toNat | none => 0
theorem PIn.nextAt {w : World} {b g cap len : Nat} {toks : List Pq.Tok} {vb vk vf : Value} {s : Pq.PS} (h : PIn w b g cap len toks vb vk vf s) : nextAt w b = s.next := by unfold Go.Proofs.YtcoofnhdbejnpaaDoor.nextAt; rw [h.cells.2.2.1]; simp [intOf]
/-- a measure for a loop that goes on while a token is taken -/
def moreM (n : Nat) : Value → Nat → Nat | .bool true, k => n + 1 - k | _, _ => 0
theorem grown_drew {w w' : World} {r : Option Nat} (h : w.grownBy w' r) : w.drew.grownBy w' r := ⟨h.os, h.tape, h.output, h.size, h.block⟩
end Go.Proofs.YtcoofnhdbejnpaaDoor
