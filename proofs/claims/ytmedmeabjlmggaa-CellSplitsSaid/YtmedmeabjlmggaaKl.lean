/- Cells one behind the other; a list's own row of them. -/
import Derived.Test.YtmedmeabjlmggaaKe
import Derived.Laws.AppendOwn
namespace Go.Proofs.Ytmedmeabjlmggaa
open Go.RowKit
set_option linter.unusedSimpArgs false
set_option linter.unusedVariables false

/-- A cell's parts. -/
structure CellD where
  g : Nat
  s : Nat
  p : Int
  q : Int
  A : Option Addr
  n : Nat
  c : Nat
  f : Nat → Nat
def CellD.good (x : CellD) : Prop := x.g < 4294967296 ∧ x.s < 4294967296 ∧ -9223372036854775808 ≤ x.p ∧ x.p ≤ 9223372036854775807 ∧ -9223372036854775808 ≤ x.q ∧ x.q ≤ 9223372036854775807 ∧ x.n ≤ x.c ∧ x.n ≤ 9223372036854775807 ∧ (∀ j, j < x.n → x.f j < 256) ∧ (x.A = none → x.n = 0 ∧ x.c = 0)
abbrev CellD.val (x : CellD) : Value := cellV x.g x.s x.p x.q x.A x.n x.c
/-- The cell at an address. -/
def CellAt (w : World) (a : Addr) (x : CellD) : Prop :=
  a.block < w.heap.size ∧ w.cell? a = some (.int .u32 (x.g : Nat)) ∧ w.cell? (a.add 1) = some (.int .u32 (x.s : Nat)) ∧ w.cell? (a.add 2) = some (.int .i64 x.p) ∧ w.cell? (a.add 3) = some (.int .i64 x.q) ∧ w.cell? (a.add 4) = some (.slice x.A x.n x.c) ∧
  Rd .u8 w x.A x.n x.f ∧ x.good
def CellsAt (w : World) (A : Option Addr) (n : Nat) (X : Nat → CellD) : Prop := ∀ i, i < n → ∃ ad, A = some ad ∧ CellAt w (ad.add (i * 5)) (X i)
theorem CellAt.keep {w w' : World} {a : Addr} {x : CellD} (h : CellAt w a x) (hb : Below w.heap.size w w') : CellAt w' a x := by
  obtain ⟨h0, h1, h2, h3, h4, h5, h6, h7⟩ := h
  have k : ∀ j v, w.cell? (a.add j) = some v → w'.cell? (a.add j) = some v := fun j v hc => (hb.cell (p := a.add j) (by rw [add_block]; exact h0)).trans hc
  exact ⟨Nat.lt_of_lt_of_le h0 hb.size, (hb.cell h0).trans h1, k _ _ h2, k _ _ h3, k _ _ h4, k _ _ h5, h6.below hb, h7⟩
theorem CellsAt.keep {w w' : World} {A : Option Addr} {n : Nat} {X : Nat → CellD} (h : CellsAt w A n X) (hb : Below w.heap.size w w') : CellsAt w' A n X := fun i hi => by
  obtain ⟨ad, e, ha⟩ := h i hi
  exact ⟨ad, e, ha.keep hb⟩
theorem CellsAt.at_ {w : World} {ad : Addr} {n : Nat} {X : Nat → CellD} (h : CellsAt w (some ad) n X) {i : Nat} (hi : i < n) : CellAt w (ad.add (i * 5)) (X i) := by
  obtain ⟨ad', e, ha⟩ := h i hi
  injection e with e
  subst e
  exact ha
theorem CellsAt.congr {w : World} {A : Option Addr} {n : Nat} {X Y : Nat → CellD} (h : CellsAt w A n X) (he : ∀ i, i < n → X i = Y i) : CellsAt w A n Y := fun i hi => by
  rw [← he i hi]; exact h i hi
theorem CellsAt.less {w : World} {A : Option Addr} {n m : Nat} {X : Nat → CellD} (h : CellsAt w A n X) (hm : m ≤ n) : CellsAt w A m X := fun i hi => h i (by omega)
theorem CellsAt.drew {w : World} {A : Option Addr} {n : Nat} {X : Nat → CellD} (h : CellsAt w A n X) : CellsAt w.drew A n X := h
/-- A cell's values in a row. -/
def cellL (x : CellD) : List Value := [.int .u32 (x.g : Nat), .int .u32 (x.s : Nat), .int .i64 x.p, .int .i64 x.q, .slice x.A x.n x.c]
def rowL (X : Nat → CellD) (k : Nat) : List Value := (List.range k).flatMap fun i => cellL (X i)
theorem rowL_succ (X : Nat → CellD) (k : Nat) : rowL X (k + 1) = rowL X k ++ cellL (X k) := by
  unfold rowL
  rw [List.range_succ, List.flatMap_append]
  simp
theorem rowL_len (X : Nat → CellD) : ∀ k, (rowL X k).length = k * 5
  | 0 => rfl
  | k + 1 => by rw [rowL_succ, List.length_append, rowL_len X k]; simp [cellL]; omega
theorem rowL_get (X : Nat → CellD) {i j : Nat} (hj : j < 5) : ∀ k, i < k → (rowL X k)[i * 5 + j]? = (cellL (X i))[j]?
  | 0, h => absurd h (by omega)
  | k + 1, h => by
    rw [rowL_succ]
    by_cases hk : i < k
    · rw [List.getElem?_append_left (by rw [rowL_len]; omega)]
      exact rowL_get X hj k hk
    · obtain rfl : i = k := by omega
      rw [List.getElem?_append_right (by rw [rowL_len]; omega), rowL_len, Nat.add_sub_cancel_left]
/-- A list of cells of one's own. -/
def OwnC (w : World) (base : Nat) (v : Value) (n : Nat) (X : Nat → CellD) : Prop := w.ownsRow base 62 5 v n (rowL X n)
theorem OwnC.at_ {w : World} {base : Nat} {A : Option Addr} {n c : Nat} {X : Nat → CellD} (h : OwnC w base (.slice A n c) n X) (hr : ∀ i, i < n → Rd .u8 w (X i).A (X i).n (X i).f) (hg : ∀ i, i < n → (X i).good) : CellsAt w A n X := fun i hi => by
  have hh := h
  rcases h.2 with ⟨_, h0⟩ | ⟨g, cap, cur, hv, _, hgb, _⟩
  · omega
  · injection hv with hA _ hc
    subst hA
    subst hc
    have cl : ∀ j, j < 5 → w.cell? ⟨g, i * 5 + j, none⟩ = (cellL (X i))[j]? := fun j hj => by
      have := World.ownsRow.cellAt (g := g) (cap := c) hh (i * 5 + j) (by omega)
      rw [this]
      exact rowL_get X hj n hi
    have hlt : g < w.heap.size := (Array.getElem?_eq_some_iff.1 hgb).1
    refine ⟨⟨g, 0, none⟩, rfl, ?_, ?_, ?_, ?_, ?_, ?_, hr i hi, hg i hi⟩
    · rw [add_mk]; exact hlt
    · rw [add_mk, Nat.zero_add]; exact cl 0 (by omega)
    · rw [add_mk, add_mk, Nat.zero_add]; exact cl 1 (by omega)
    · rw [add_mk, add_mk, Nat.zero_add]; exact cl 2 (by omega)
    · rw [add_mk, add_mk, Nat.zero_add]; exact cl 3 (by omega)
    · rw [add_mk, add_mk, Nat.zero_add]; exact cl 4 (by omega)
/-- The i-th cell of a record. -/
def PartOf (g s n : Nat) (f : Nat → Nat) (i : Nat) (x : CellD) : Prop := x.g = g ∧ x.s = s ∧ x.p = (i : Nat) ∧ x.q = (needF n : Nat) ∧ x.n = min (49 * i + 49) n - 49 * i ∧ ∀ j, j < x.n → x.f j = f (49 * i + j)
def SplitPost (w w' : World) (e : Ending) (g s n : Nat) (f : Nat → Nat) : Prop :=
  ((needF n = 0 ∧ e = .returned (.tuple #[.slice none 0 0, .int .i64 1])) ∨
   (needF n ≠ 0 ∧ ∃ ad c X, e = .returned (.tuple #[.slice (some ad) (needF n) c, .int .i64 0]) ∧ needF n ≤ c ∧ CellsAt w' (some ad) (needF n) X ∧ ∀ i, i < needF n → PartOf g s n f i (X i))) ∧ Below w.heap.size w w'
theorem need_few (n : Nat) : needF n ≤ 8 := by unfold needF; split <;> omega
theorem part_len {g s n : Nat} {f : Nat → Nat} {i : Nat} {x : CellD} (h : PartOf g s n f i x) (hi : i < needF n) : 1 ≤ x.n ∧ x.n ≤ 49 ∧ (i + 1 < needF n → x.n = 49) ∧ 49 * i < n ∧ 49 * i + x.n ≤ n := by
  obtain ⟨_, _, _, _, h5, _⟩ := h
  unfold needF at hi ⊢
  split at hi
  · omega
  · rw [if_neg (by assumption)]
    omega
theorem part_may {g s n : Nat} {f : Nat → Nat} {i : Nat} {x : CellD} (h : PartOf g s n f i x) (hi : i < needF n) : mayP x.p x.q x.n := by
  have h1 := part_len h hi
  have h2 := need_few n
  obtain ⟨_, _, h3, h4, _, _⟩ := h
  unfold mayP
  rw [h3, h4]
  by_cases hl : i + 1 < needF n
  · have := h1.2.2.1 hl; omega
  · omega
end Go.Proofs.Ytmedmeabjlmggaa
