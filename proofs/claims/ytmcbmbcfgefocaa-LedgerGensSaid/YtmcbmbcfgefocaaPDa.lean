/- What is encoded is decoded; what is split is joined; the contracts in the words of the laws. -/
import Derived.Test.YtmcbmbcfgefocaaPKf2
import Derived.Test.YtmcbmbcfgefocaaPKi
import Derived.Test.YtmcbmbcfgefocaaPKj
import Derived.Test.YtmcbmbcfgefocaaPKc
import Derived.ProofKit
import Derived.OpenShut
import Derived.Lib.SmallJoins
import Derived.Test.YtmcbmbcfgefocaaRows
import Derived.Deep.OwnRows
import Derived.Maps.AppendAt
import Derived.BigQuiet
import Derived.Deep.QuietTactic
import Derived.RegionTactic
import Derived.ChangeAlike
import Derived.IntWalk
import Derived.Laws.BytesArg
namespace Go.Proofs.Ytmcbmbcfgefocaa
open Go.RowKit
set_option linter.unusedSimpArgs false
set_option linter.unusedVariables false

theorem sect_body (g s p q n : Nat) (f : Nat → Nat) (j : Nat) : sectF g s p q n f (4 + j) = bodyF g s p q n f j := seal_behind _ _ _
theorem num_word {x : Nat} {h : Nat → Nat} (hx : x < 4294967296) (hh : ∀ j, j < 4 → h j = x / 256 ^ j % 256) : num 256 h 4 = x :=
  (four_num (fun j hj => by rw [hh j hj]; exact Nat.mod_lt _ (by decide)) hx).2 hh
theorem sect_dec {g s p q n : Nat} {f : Nat → Nat} (hg : g < 4294967296) (hs : s < 4294967296) (hm : mayP (p : Nat) (q : Nat) n) (hf : ∀ j, j < n → f j < 256) :
    decP 64 (sectF g s p q n f) ∧ num 256 (fun j => sectF g s p q n f (4 + j)) 4 = g ∧ num 256 (fun j => sectF g s p q n f (8 + j)) 4 = s ∧ sectF g s p q n f 12 = p ∧ sectF g s p q n f 13 = q ∧ sectF g s p q n f 14 = n ∧ ∀ j, j < n → sectF g s p q n f (15 + j) = f j := by
  have hm2 := hm
  unfold mayP at hm2
  have e12 : sectF g s p q n f 12 = p := by rw [show 12 = 4 + 8 from rfl, sect_body]; simp [bodyF]
  have e13 : sectF g s p q n f 13 = q := by rw [show 13 = 4 + 9 from rfl, sect_body]; simp [bodyF]
  have e14 : sectF g s p q n f 14 = n := by rw [show 14 = 4 + 10 from rfl, sect_body]; simp [bodyF]
  refine ⟨⟨rfl, openB_seal (bodyF_lt (by omega) (by omega) (by omega) hf), by rw [e14]; omega, by rw [e12, e13, e14]; exact hm, fun j h1 h2 => ?_⟩, num_word hg fun j hj => ?_, num_word hs fun j hj => ?_, e12, e13, e14, fun j hj => ?_⟩
  · rw [e14] at h1
    rw [show j = 4 + (j - 4) from by omega, sect_body]
    unfold bodyF
    rw [if_neg (by omega), if_neg (by omega), if_neg (by omega), if_neg (by omega), if_neg (by omega), if_neg (by omega)]
  · show sectF g s p q n f (4 + j) = _
    rw [sect_body]
    unfold bodyF
    rw [if_pos hj]
  · show sectF g s p q n f (8 + j) = _
    rw [show 8 + j = 4 + (4 + j) from by omega, sect_body]
    unfold bodyF
    rw [if_neg (by omega), if_pos (by omega), Nat.add_sub_cancel_left]
  · rw [show 15 + j = 4 + (11 + j) from by omega, sect_body]
    unfold bodyF
    rw [if_neg (by omega), if_neg (by omega), if_neg (by omega), if_neg (by omega), if_neg (by omega), if_pos (by omega), Nat.add_sub_cancel_left]

/-- A cell's value, by whatever numbers. -/
abbrev cellI (g s p q : Int) (A : Option Addr) (n c : Nat) : Value := .agg #[.int .u32 g, .int .u32 s, .int .i64 p, .int .i64 q, .slice A n c]
def u32I (g : Int) : Prop := 0 ≤ g ∧ g < 4294967296
section
variable {w : World} {g s p q : Int} {A : Option Addr} {n c : Nat} {f : Nat → Nat} {v : Value}
theorem encode_i (hg : u32I g) (hs : u32I s) (hr : Rd .u8 w A n f) (hf : ∀ j, j < n → f j < 256) (hm : mayP p q n) : Calls Try.prog 65 #[cellI g s p q A n c] w fun e w' => (∃ v, e = .returned (.tuple #[v, .int .i64 0]) ∧ Byt w' v 64 (sectF g.toNat s.toNat p.toNat q.toNat n f)) ∧ Below w.heap.size w w' := by
  have hm2 := hm
  unfold mayP at hm2
  obtain ⟨g, rfl⟩ : ∃ k : Nat, g = k := ⟨g.toNat, by unfold u32I at hg; omega⟩
  obtain ⟨s, rfl⟩ : ∃ k : Nat, s = k := ⟨s.toNat, by unfold u32I at hs; omega⟩
  obtain ⟨p, rfl⟩ : ∃ k : Nat, p = k := ⟨p.toNat, by omega⟩
  obtain ⟨q, rfl⟩ : ∃ k : Nat, q = k := ⟨q.toNat, by omega⟩
  have := encode_yes g s p q A n c f w (by unfold u32I at hg; omega) (by unfold u32I at hs; omega) hr hf hm
  simpa using this
theorem decode_ino {m : Nat} {h : Nat → Nat} (hv : Byt w v m h) (hm : m ≤ 9223372036854775807) (hd : ¬ decP m h) :
    Calls Try.prog 68 #[v] w fun e w' => e = .returned (.tuple #[cellI 0 0 0 0 none 0 0, .int .i64 2]) ∧ Below w.heap.size w w' := by
  refine (decode_by hv hm).mono ?_
  rintro e w' ⟨hp, hb⟩
  rcases hp with ⟨hy, _⟩ | ⟨_, he⟩
  · exact absurd hy hd
  · exact ⟨he, hb⟩
end
/-- What is split is joined. -/
theorem parts_join {g s n : Nat} {f : Nat → Nat} {X : Nat → CellD} (hz : needF n ≠ 0) (hP : ∀ i, i < needF n → PartOf g s n f i (X i)) : joinP (needF n) X ∧ joinN (needF n) X (needF n) = n ∧ ∀ j, j < n → joinF X j = f j := by
  have h0 := hP 0 (by omega)
  have hn : 0 < n ∧ n ≤ 392 ∧ needF n = (n + 48) / 49 := by
    unfold needF at hz ⊢
    split at hz
    · omega
    · rename_i h; rw [if_neg h]; omega
  refine ⟨⟨by omega, fun i hi => ?_⟩, ?_, fun j hj => ?_⟩
  · have h := hP i hi
    refine ⟨part_may h hi, h.2.2.1, h.2.2.2.1, ?_, ?_⟩
    · rw [h.1, h0.1]
    · rw [h.2.1, h0.2.1]
  · unfold joinN
    rw [if_neg (by omega)]
    have h := hP (needF n - 1) (by omega)
    rw [h.2.2.2.2.1]
    omega
  · have hi : j / 49 < needF n := by omega
    have h := hP (j / 49) hi
    unfold joinF
    rw [h.2.2.2.2.2 (j % 49) (by rw [h.2.2.2.2.1]; omega)]
    congr 1
    omega
end Go.Proofs.Ytmcbmbcfgefocaa

/- What a cell, and a list of cells, that came in read as. -/
namespace Go.Proofs.Ytmcbmbcfgefocaa
open Go.ChangeShapes Go.WideShapes Go.ChangeAt Go.RowKit
set_option linter.unusedSimpArgs false
set_option linter.unusedVariables false

theorem cellsRow : Try.prog.cellsOf 35 = 1 := by kernel_rfl
section
variable {P : Program} {H : Type} {enc : TypeId × Value → H} {w : World} {base : Nat} {spare : Nat → Bool} {held : Bool}
end
theorem bytes_of {w : World} {a : Option Addr} {len cap : Nat} {zs : List Int}
    (h : (a = none ∧ len = 0 ∧ cap = 0 ∧ zs = []) ∨ ∃ x, a = some x ∧ len ≤ cap ∧ cap ≤ maxLen ∧ zs.length = cap ∧ (∀ i, i < zs.length → w.cell? (x.add i) = some (.int .u8 (zs.getD i 0))) ∧ ∀ n ∈ zs, (Lit.int .u8 n).wf = true) :
    len ≤ cap ∧ len ≤ 9223372036854775807 ∧ ∃ f, Rd .u8 w a len f ∧ ∀ j, j < len → f j < 256 := by
  rcases h with ⟨rfl, rfl, rfl, rfl⟩ | ⟨x, rfl, hl, hm, hz, hcell, hwf⟩
  · exact ⟨Nat.le_refl _, by omega, fun _ => 0, Rd.zero, fun j hj => absurd hj (by omega)⟩
  · have hb : ∀ j, j < len → 0 ≤ zs.getD j 0 ∧ zs.getD j 0 < 256 := fun j hj => by
      have hjl : j < zs.length := by omega
      have hmem : zs.getD j 0 ∈ zs := by
        rw [List.getD, List.getElem?_eq_getElem hjl]; exact List.getElem_mem hjl
      have := hwf _ hmem
      generalize zs.getD j 0 = q at this ⊢
      simp [Lit.wf, IntKind.min, IntKind.max, IntKind.bits, IntKind.signed] at this
      omega
    refine ⟨hl, by simp only [maxLen] at hm; omega, fun j => (zs.getD j 0).toNat, fun j hj => ⟨x, rfl, ?_⟩, fun j hj => by
      have := hb j hj
      show (zs.getD j 0).toNat < 256
      generalize zs.getD j 0 = q at this ⊢
      omega⟩
    rw [hcell j (by omega), Int.toNat_of_nonneg (hb j hj).1]

end Go.Proofs.Ytmcbmbcfgefocaa

/- Frames with footprints; rows of 64 bytes; the abstract disk. Nothing of the program is in here. -/
namespace Go.Proofs.Ytmcbmbcfgefocaa
open Go.RowKit

/-- Of what there was only the blocks of F may have turned. -/
structure Only (F : Nat → Prop) (w w' : World) : Prop where
  os : w'.os = w.os
  tape : w'.tape = w.tape
  output : w'.output = w.output
  size : w.heap.size ≤ w'.heap.size
  block : ∀ k, k < w.heap.size → ¬ F k → w'.heap[k]? = w.heap[k]?

section
variable {F G : Nat → Prop} {w w' w'' : World}
theorem Only.refl : Only F w w := ⟨rfl, rfl, rfl, Nat.le_refl _, fun _ _ _ => rfl⟩
theorem Only.trans (h : Only F w w') (k : Only F w' w'') : Only F w w'' :=
  ⟨k.os.trans h.os, k.tape.trans h.tape, k.output.trans h.output, Nat.le_trans h.size k.size, fun i hi hn => (k.block i (Nat.lt_of_lt_of_le hi h.size) hn).trans (h.block i hi hn)⟩
/-- The second frame may be that of a footprint that has grown by new blocks. -/
theorem Only.then (h : Only F w w') (k : Only G w' w'') (hg : ∀ k, G k → F k ∨ w.heap.size ≤ k) : Only F w w'' :=
  ⟨k.os.trans h.os, k.tape.trans h.tape, k.output.trans h.output, Nat.le_trans h.size k.size, fun i hi hn =>
    (k.block i (Nat.lt_of_lt_of_le hi h.size) (fun e => by rcases hg i e with e | e; exact hn e; omega)).trans (h.block i hi hn)⟩
theorem Only.mono (h : Only F w w') (hg : ∀ k, F k → G k) : Only G w w' := ⟨h.os, h.tape, h.output, h.size, fun i hi hn => h.block i hi (fun e => hn (hg i e))⟩
theorem Only.of_below (h : Below w.heap.size w w') : Only F w w' := ⟨h.os, h.tape, h.output, h.size, fun i hi _ => h.block i hi⟩
theorem Only.below {B : Nat} (h : Only F w w') (hB : B ≤ w.heap.size) (hF : ∀ k, F k → B ≤ k) : Below B w w' :=
  ⟨h.os, h.tape, h.output, h.size, fun i hi => h.block i (by omega) (fun e => by have := hF i e; omega)⟩
theorem Only.drew (h : Only F w w') : Only F w w'.drew := ⟨h.os, h.tape, h.output, h.size, h.block⟩
theorem Only.alloc (h : Only F w w') (o : Obj) : Only F w (w'.alloc o) := h.trans (.of_below ((Below.refl _ _).alloc (Nat.le_refl _) _))
theorem Only.setCell (h : Only F w w') {a : Addr} (ha : F a.block ∨ w.heap.size ≤ a.block) (v : Value) : Only F w (w'.setCell a v) :=
  ⟨h.os, h.tape, h.output, by simpa [World.setCell] using h.size, fun k hk hn => (Below.heap_setCell w' a v k (fun e => by subst e; rcases ha with ha | ha; exact hn ha; omega)).trans (h.block k hk hn)⟩
theorem Only.grown (h : Only F w w') {row : Option Nat} (hg : w'.grownBy w'' row) (hr : ∀ k, row = some k → F k ∨ w.heap.size ≤ k) : Only F w w'' :=
  ⟨hg.os.trans h.os, hg.tape.trans h.tape, hg.output.trans h.output, Nat.le_trans h.size hg.size, fun k hk hn =>
    (hg.block k (Nat.lt_of_lt_of_le hk h.size) (fun e => by rcases hr k e.symm with e | e; exact hn e; omega)).trans (h.block k hk hn)⟩
theorem Only.cell (h : Only F w w') {p : Addr} {v : Value} (hc : w.cell? p = some v) (hn : ¬ F p.block) : w'.cell? p = some v :=
  (World.cell?_of_block (h.block _ (block_lt_of_cell hc) hn)).trans hc
theorem Only.rowIs (h : Only F w w') {b : Nat} {t : TypeId} {n : Nat} {f : Nat → Value} (hr : w.rowIs b t n f) (hn : ¬ F b) : w'.rowIs b t n f := hr.of_block (h.block b hr.lt hn)
end

/-- A row of 64 bytes, f, in one of the blocks R. -/
def Sec (R : Nat → Prop) (w : World) (v : Value) (f : Nat → Nat) : Prop :=
  ∃ g o c, v = .slice (some ⟨g, o, none⟩) 64 c ∧ 64 ≤ c ∧ R g ∧ (∀ j, j < 64 → w.cell? ⟨g, o + j, none⟩ = some (.int .u8 (f j : Nat))) ∧ ∀ j, j < 64 → f j < 256
/-- A row, or none. -/
def SecO (R : Nat → Prop) (w : World) (v : Value) : Option (Nat → Nat) → Prop
  | none => v = .slice none 0 0
  | some f => Sec R w v f
section
variable {R R' : Nat → Prop} {w w' : World} {v : Value} {f : Nat → Nat} {s : Option (Nat → Nat)}
theorem Sec.lt (h : Sec R w v f) : ∃ g, v.ownBlock = some g ∧ R g ∧ g < w.heap.size := by
  obtain ⟨g, o, c, rfl, _, hR, hc, _⟩ := h
  exact ⟨g, rfl, hR, by have := block_lt_of_cell (hc 0 (by omega)); simpa using this⟩
theorem Sec.keep (h : Sec R w v f) (hb : ∀ k, R k → k < w.heap.size → w'.heap[k]? = w.heap[k]?) (hR : ∀ k, R k → k < w.heap.size → R' k) : Sec R' w' v f := by
  obtain ⟨g, o, c, rfl, h1, h2, hc, h4⟩ := h
  have hlt : g < w.heap.size := by have := block_lt_of_cell (hc 0 (by omega)); simpa using this
  exact ⟨g, o, c, rfl, h1, hR g h2 hlt, fun j hj => (World.cell?_of_block (hb g h2 hlt)).trans (hc j hj), h4⟩
theorem SecO.keep (h : SecO R w v s) (hb : ∀ k, R k → k < w.heap.size → w'.heap[k]? = w.heap[k]?) (hR : ∀ k, R k → k < w.heap.size → R' k) : SecO R' w' v s := by
  cases s with
  | none => exact h
  | some f => exact Sec.keep h hb hR
theorem SecO.form (h : SecO R w v s) : ∃ a n c, v = .slice a n c := by
  cases s with
  | none => exact ⟨_, _, _, h⟩
  | some f => obtain ⟨g, o, c, h, _⟩ := h; exact ⟨_, _, _, h⟩
theorem Sec.rd (h : Sec R w v f) : ∃ g o c, v = .slice (some ⟨g, o, none⟩) 64 c ∧ 64 ≤ c ∧ R g ∧ Rd .u8 w (some ⟨g, o, none⟩) 64 f ∧ ∀ j, j < 64 → f j < 256 := by
  obtain ⟨g, o, c, rfl, h1, h2, hc, h4⟩ := h
  exact ⟨g, o, c, rfl, h1, h2, fun j hj => ⟨_, rfl, by rw [add_mk]; exact hc j hj⟩, h4⟩
end

/-- The abstract disk: how many sectors; what is there of each (none: torn); the writes that are pending; whether the power is gone; how many writes and flushes may still be begun, the one that fails among them (0: no plan). -/
structure DS where
  n : Nat
  T : Nat → Option (Nat → Nat)
  P : List (Nat × (Nat → Nat))
  gone : Bool
  left : Nat

def setT (T : Nat → Option (Nat → Nat)) (i : Nat) (x : Option (Nat → Nat)) : Nat → Option (Nat → Nat) := fun j => if j = i then x else T j
/-- All of these writes are there. -/
def layT (T : Nat → Option (Nat → Nat)) : List (Nat × (Nat → Nat)) → Nat → Option (Nat → Nat)
  | [] => T
  | p :: P => layT (setT T p.1 (some p.2)) P
/-- As the choices say. -/
def upT (T : Nat → Option (Nat → Nat)) : List (Nat × (Nat → Nat)) → List Nat → Nat → Option (Nat → Nat)
  | [], _ => T
  | _ :: P, [] => upT T P []
  | p :: P, c :: cs => upT (if c % 3 = 1 then setT T p.1 (some p.2) else if c % 3 = 2 then setT T p.1 none else T) P cs
theorem layT_app (T : Nat → Option (Nat → Nat)) (P Q : List (Nat × (Nat → Nat))) : layT T (P ++ Q) = layT (layT T P) Q := by
  induction P generalizing T with
  | nil => rfl
  | cons p P ih => exact ih _
theorem layT_snoc (T : Nat → Option (Nat → Nat)) (P : List (Nat × (Nat → Nat))) (i : Nat) (f : Nat → Nat) : layT T (P ++ [(i, f)]) = setT (layT T P) i (some f) := by
  rw [layT_app]; rfl
def DS.seen (S : DS) : Nat → Option (Nat → Nat) := layT S.T S.P

/-- What Write, Flush, Plan, Up make of a disk; begun: a write or flush is begun. -/
def DS.begun (S : DS) : DS := if S.left = 0 then S else if S.left = 1 then { S with left := 0, gone := true } else { S with left := S.left - 1 }
def DS.ok (S : DS) : Bool := S.left != 1
def DS.wrote (S : DS) (i : Nat) (f : Nat → Nat) : DS := { S with P := S.P ++ [(i, f)] }
def DS.flushed (S : DS) : DS := { S with T := layT S.T S.P, P := [] }
def DS.up (S : DS) (cs : List Nat) : DS := { S with T := upT S.T S.P cs, P := [], gone := false, left := 0 }
end Go.Proofs.Ytmcbmbcfgefocaa
