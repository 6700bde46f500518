/- Blocks of memory that are known whole: what stays of them, and what a walk is told of them. Nothing of the program is in here. -/
import Derived.Below
import Derived.Laws.World
import Derived.Laws.Rows
import Derived.Laws.NewBlocks
import Derived.Deep.RegionHeld
import Derived.RowKit
namespace Go.Proofs.YtglcififcldchaaGreatDoor
open Go.RowKit

/-- Block g holds just cs. -/
def Blk (w : World) (g : Nat) (t : TypeId) (cs : Array Value) : Prop := w.heap[g]? = some (.cells cs t (0, 0))
section
variable {w w' : World} {g : Nat} {t : TypeId} {cs : Array Value}
theorem Blk.lt (h : Blk w g t cs) : g < w.heap.size := by
  rcases Nat.lt_or_ge g w.heap.size with hlt | hge
  · exact hlt
  · unfold Blk at h; rw [Array.getElem?_eq_none hge] at h; cases h
theorem Blk.below (h : Blk w g t cs) (hb : Below w.heap.size w w') : Blk w' g t cs := (hb.block g h.lt).trans h
theorem Blk.drew_ (h : Blk w g t cs) : Blk w.drew g t cs := h
theorem Blk.alloc_ (h : Blk w g t cs) (o : Obj) : Blk (w.alloc o) g t cs := h.below ((Below.refl _ _).alloc (Nat.le_refl _) _)
theorem Blk.new (w : World) (g : Nat) (hg : g = w.heap.size) (t : TypeId) (cs : Array Value) : Blk (w.alloc (.cells cs t)) g t cs := by
  subst hg; exact heap_alloc_new w _
theorem Blk.set_ (h : Blk w g t cs) (i : Nat) (v : Value) : Blk (w.setCell ⟨g, i, none⟩ v) g t (cs.setIfInBounds i v) := by
  unfold Blk at *
  simp [World.setCell, Array.getElem?_modify, h]
theorem Blk.other (h : Blk w g t cs) {g' : Nat} (hg : g ≠ g') (i : Nat) (v : Value) : Blk (w.setCell ⟨g', i, none⟩ v) g t cs :=
  (Below.heap_setCell w ⟨g', i, none⟩ v g hg).trans h
theorem Blk.cell (h : Blk w g t cs) (i : Nat) : w.cell? ⟨g, i, none⟩ = cs[i]? := cell_of_row w g i cs t (0, 0) h
theorem Blk.frozen (h : Blk w g t cs) (i : Nat) : w.frozen? ⟨g, i, none⟩ = false := frozen_of_row w g i cs t h
end
section
variable {w : World} {g g' : Nat} {t : TypeId} {x y a b : Value}
/-- Stores of a value of two cells. -/
theorem Blk.own2 (h : Blk w g t #[x, y]) : Blk ((w.setCell ⟨g, 0, none⟩ a).setCell ⟨g, 1, none⟩ b) g t #[a, b] := (h.set_ 0 a).set_ 1 b
theorem Blk.other2 {cs : Array Value} (h : Blk w g t cs) (hg : g ≠ g') : Blk ((w.setCell ⟨g', 0, none⟩ a).setCell ⟨g', 1, none⟩ b) g t cs := (h.other hg 0 a).other hg 1 b
theorem Blk.facts2 (h : Blk w g t #[x, y]) : w.cell? ⟨g, 0, none⟩ = some x ∧ w.cell? ⟨g, 1, none⟩ = some y ∧ w.frozen? ⟨g, 0, none⟩ = false ∧ w.frozen? ⟨g, 1, none⟩ = false ∧ ∀ v, (w.setCell ⟨g, 0, none⟩ v).cell? ⟨g, 1, none⟩ = some y :=
  ⟨h.cell 0, h.cell 1, h.frozen 0, h.frozen 1, fun v => (h.set_ 0 v).cell 1⟩
theorem Blk.cell0 (h : Blk w g t #[x, y]) : w.cell? ⟨g, 0, none⟩ = some x := h.cell 0
theorem Blk.cell1 (h : Blk w g t #[x, y]) : w.cell? ⟨g, 1, none⟩ = some y := h.cell 1
theorem cell_drew (w : World) (a : Addr) : w.drew.cell? a = w.cell? a := rfl
theorem cell_far2 (w : World) (g g' i : Nat) (a b : Value) (hg : g ≠ g') : ((w.setCell ⟨g', 0, none⟩ a).setCell ⟨g', 1, none⟩ b).cell? ⟨g, i, none⟩ = w.cell? ⟨g, i, none⟩ := by
  rw [World.cell?_setCell_far _ _ _ _ (fun e => hg e.symm), World.cell?_setCell_far _ _ _ _ (fun e => hg e.symm)]
theorem Below.set2 {B : Nat} {w0 : World} (h : Below B w0 w) (hg : B ≤ g) : Below B w0 ((w.setCell ⟨g, 0, none⟩ a).setCell ⟨g, 1, none⟩ b) := (h.setCell hg _).setCell hg _
end
end Go.Proofs.YtglcififcldchaaGreatDoor
