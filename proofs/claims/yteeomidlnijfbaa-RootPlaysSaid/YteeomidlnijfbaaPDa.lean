/- Frames with footprints; rows of 64 bytes; the abstract disk. Nothing of the program is in here. -/
import Derived.Test.YteeomidlnijfbaaPKa
import Derived.Test.YteeomidlnijfbaaRows
import Derived.Deep.OwnRows
import Derived.Maps.AppendAt
import Derived.BigQuiet
import Derived.Deep.QuietTactic
import Derived.RegionTactic
import Derived.ChangeAlike
import Derived.IntWalk
import Derived.Laws.BytesArg
namespace Go.Proofs.Yteeomidlnijfbaa
open Go.RowKit

/-- Of what there was only the blocks of F may have turned. -/
structure Only (F : Nat → Prop) (w w' : World) : Prop where
  os : w'.os = w.os
  tape : w'.tape = w.tape
  output : w'.output = w.output
  size : w.heap.size ≤ w'.heap.size
  block : ∀ k, k < w.heap.size → ¬ F k → w'.heap[k]? = w.heap[k]?

section
variable {F G : Nat → Prop} {w w' w'' : World}
theorem Only.refl : Only F w w := ⟨rfl, rfl, rfl, Nat.le_refl _, fun _ _ _ => rfl⟩
theorem Only.trans (h : Only F w w') (k : Only F w' w'') : Only F w w'' :=
  ⟨k.os.trans h.os, k.tape.trans h.tape, k.output.trans h.output, Nat.le_trans h.size k.size, fun i hi hn => (k.block i (Nat.lt_of_lt_of_le hi h.size) hn).trans (h.block i hi hn)⟩
/-- The second frame may be that of a footprint that has grown by new blocks. -/
theorem Only.then (h : Only F w w') (k : Only G w' w'') (hg : ∀ k, G k → F k ∨ w.heap.size ≤ k) : Only F w w'' :=
  ⟨k.os.trans h.os, k.tape.trans h.tape, k.output.trans h.output, Nat.le_trans h.size k.size, fun i hi hn =>
    (k.block i (Nat.lt_of_lt_of_le hi h.size) (fun e => by rcases hg i e with e | e; exact hn e; omega)).trans (h.block i hi hn)⟩
theorem Only.mono (h : Only F w w') (hg : ∀ k, F k → G k) : Only G w w' := ⟨h.os, h.tape, h.output, h.size, fun i hi hn => h.block i hi (fun e => hn (hg i e))⟩
theorem Only.of_below (h : Below w.heap.size w w') : Only F w w' := ⟨h.os, h.tape, h.output, h.size, fun i hi _ => h.block i hi⟩
theorem Only.below {B : Nat} (h : Only F w w') (hB : B ≤ w.heap.size) (hF : ∀ k, F k → B ≤ k) : Below B w w' :=
  ⟨h.os, h.tape, h.output, h.size, fun i hi => h.block i (by omega) (fun e => by have := hF i e; omega)⟩
theorem Only.drew (h : Only F w w') : Only F w w'.drew := ⟨h.os, h.tape, h.output, h.size, h.block⟩
theorem Only.drewN (h : Only F w w') (n : Nat) : Only F w (w'.drewN n) := ⟨h.os, h.tape, h.output, h.size, h.block⟩
theorem Only.alloc (h : Only F w w') (o : Obj) : Only F w (w'.alloc o) := h.trans (.of_below ((Below.refl _ _).alloc (Nat.le_refl _) _))
theorem Only.setCell (h : Only F w w') {a : Addr} (ha : F a.block ∨ w.heap.size ≤ a.block) (v : Value) : Only F w (w'.setCell a v) :=
  ⟨h.os, h.tape, h.output, by simpa [World.setCell] using h.size, fun k hk hn => (Below.heap_setCell w' a v k (fun e => by subst e; rcases ha with ha | ha; exact hn ha; omega)).trans (h.block k hk hn)⟩
theorem Only.grown (h : Only F w w') {row : Option Nat} (hg : w'.grownBy w'' row) (hr : ∀ k, row = some k → F k ∨ w.heap.size ≤ k) : Only F w w'' :=
  ⟨hg.os.trans h.os, hg.tape.trans h.tape, hg.output.trans h.output, Nat.le_trans h.size hg.size, fun k hk hn =>
    (hg.block k (Nat.lt_of_lt_of_le hk h.size) (fun e => by rcases hr k e.symm with e | e; exact hn e; omega)).trans (h.block k hk hn)⟩
theorem Only.cell (h : Only F w w') {p : Addr} {v : Value} (hc : w.cell? p = some v) (hn : ¬ F p.block) : w'.cell? p = some v :=
  (World.cell?_of_block (h.block _ (block_lt_of_cell hc) hn)).trans hc
theorem Only.rowIs (h : Only F w w') {b : Nat} {t : TypeId} {n : Nat} {f : Nat → Value} (hr : w.rowIs b t n f) (hn : ¬ F b) : w'.rowIs b t n f := hr.of_block (h.block b hr.lt hn)
end

/-- A row of 64 bytes, f, in one of the blocks R. -/
def Sec (R : Nat → Prop) (w : World) (v : Value) (f : Nat → Nat) : Prop :=
  ∃ g o c, v = .slice (some ⟨g, o, none⟩) 64 c ∧ 64 ≤ c ∧ R g ∧ (∀ j, j < 64 → w.cell? ⟨g, o + j, none⟩ = some (.int .u8 (f j : Nat))) ∧ ∀ j, j < 64 → f j < 256
/-- A row, or none. -/
def SecO (R : Nat → Prop) (w : World) (v : Value) : Option (Nat → Nat) → Prop
  | none => v = .slice none 0 0
  | some f => Sec R w v f
section
variable {R R' : Nat → Prop} {w w' : World} {v : Value} {f : Nat → Nat} {s : Option (Nat → Nat)}
theorem Sec.lt (h : Sec R w v f) : ∃ g, v.ownBlock = some g ∧ R g ∧ g < w.heap.size := by
  obtain ⟨g, o, c, rfl, _, hR, hc, _⟩ := h
  exact ⟨g, rfl, hR, by have := block_lt_of_cell (hc 0 (by omega)); simpa using this⟩
theorem Sec.keep (h : Sec R w v f) (hb : ∀ k, R k → k < w.heap.size → w'.heap[k]? = w.heap[k]?) (hR : ∀ k, R k → k < w.heap.size → R' k) : Sec R' w' v f := by
  obtain ⟨g, o, c, rfl, h1, h2, hc, h4⟩ := h
  have hlt : g < w.heap.size := by have := block_lt_of_cell (hc 0 (by omega)); simpa using this
  exact ⟨g, o, c, rfl, h1, hR g h2 hlt, fun j hj => (World.cell?_of_block (hb g h2 hlt)).trans (hc j hj), h4⟩
theorem SecO.keep (h : SecO R w v s) (hb : ∀ k, R k → k < w.heap.size → w'.heap[k]? = w.heap[k]?) (hR : ∀ k, R k → k < w.heap.size → R' k) : SecO R' w' v s := by
  cases s with
  | none => exact h
  | some f => exact Sec.keep h hb hR
theorem SecO.form (h : SecO R w v s) : ∃ a n c, v = .slice a n c := by
  cases s with
  | none => exact ⟨_, _, _, h⟩
  | some f => obtain ⟨g, o, c, h, _⟩ := h; exact ⟨_, _, _, h⟩
theorem Sec.rd (h : Sec R w v f) : ∃ g o c, v = .slice (some ⟨g, o, none⟩) 64 c ∧ 64 ≤ c ∧ R g ∧ Rd .u8 w (some ⟨g, o, none⟩) 64 f ∧ ∀ j, j < 64 → f j < 256 := by
  obtain ⟨g, o, c, rfl, h1, h2, hc, h4⟩ := h
  exact ⟨g, o, c, rfl, h1, h2, fun j hj => ⟨_, rfl, by rw [add_mk]; exact hc j hj⟩, h4⟩
end

/-- The abstract disk: how many sectors; what is there of each (none: torn); the writes that are pending; whether the power is gone; how many writes and flushes may still be begun, the one that fails among them (0: no plan). -/
structure DS where
  n : Nat
  T : Nat → Option (Nat → Nat)
  P : List (Nat × (Nat → Nat))
  gone : Bool
  left : Nat

def setT (T : Nat → Option (Nat → Nat)) (i : Nat) (x : Option (Nat → Nat)) : Nat → Option (Nat → Nat) := fun j => if j = i then x else T j
/-- All of these writes are there. -/
def layT (T : Nat → Option (Nat → Nat)) : List (Nat × (Nat → Nat)) → Nat → Option (Nat → Nat)
  | [] => T
  | p :: P => layT (setT T p.1 (some p.2)) P
/-- As the choices say. -/
def upT (T : Nat → Option (Nat → Nat)) : List (Nat × (Nat → Nat)) → List Nat → Nat → Option (Nat → Nat)
  | [], _ => T
  | _ :: P, [] => upT T P []
  | p :: P, c :: cs => upT (if c % 3 = 1 then setT T p.1 (some p.2) else if c % 3 = 2 then setT T p.1 none else T) P cs
theorem layT_app (T : Nat → Option (Nat → Nat)) (P Q : List (Nat × (Nat → Nat))) : layT T (P ++ Q) = layT (layT T P) Q := by
  induction P generalizing T with
  | nil => rfl
  | cons p P ih => exact ih _
theorem layT_snoc (T : Nat → Option (Nat → Nat)) (P : List (Nat × (Nat → Nat))) (i : Nat) (f : Nat → Nat) : layT T (P ++ [(i, f)]) = setT (layT T P) i (some f) := by
  rw [layT_app]; rfl
def DS.seen (S : DS) : Nat → Option (Nat → Nat) := layT S.T S.P

/-- What Write, Flush, Plan, Up make of a disk; begun: a write or flush is begun. -/
def DS.begun (S : DS) : DS := if S.left = 0 then S else if S.left = 1 then { S with left := 0, gone := true } else { S with left := S.left - 1 }
def DS.ok (S : DS) : Bool := S.left != 1
def DS.wrote (S : DS) (i : Nat) (f : Nat → Nat) : DS := { S with P := S.P ++ [(i, f)] }
def DS.flushed (S : DS) : DS := { S with T := layT S.T S.P, P := [] }
def DS.plan (S : DS) (k : Int) : DS := { S with left := k.toNat }
def DS.up (S : DS) (cs : List Nat) : DS := { S with T := upT S.T S.P cs, P := [], gone := false, left := 0 }
end Go.Proofs.Yteeomidlnijfbaa
