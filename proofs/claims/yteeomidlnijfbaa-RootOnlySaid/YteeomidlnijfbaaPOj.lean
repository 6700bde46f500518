/- What a cell, and a list of cells, that came in read as. -/
import Derived.Test.YteeomidlnijfbaaPDa
import Derived.ProofKit
import Derived.OpenShut
import Derived.Lib.SmallJoins
import Derived.Test.YteeomidlnijfbaaPOg
namespace Go.Proofs.Yteeomidlnijfbaa
open Go.ChangeShapes Go.WideShapes Go.ChangeAt Go.RowKit
set_option linter.unusedSimpArgs false
set_option linter.unusedVariables false

theorem cellsRow : Try.prog.cellsOf 35 = 1 := by kernel_rfl
section
variable {P : Program} {H : Type} {enc : TypeId × Value → H} {w : World} {base : Nat} {spare : Nat → Bool} {held : Bool}
end
theorem bytes_of {w : World} {a : Option Addr} {len cap : Nat} {zs : List Int}
    (h : (a = none ∧ len = 0 ∧ cap = 0 ∧ zs = []) ∨ ∃ x, a = some x ∧ len ≤ cap ∧ cap ≤ maxLen ∧ zs.length = cap ∧ (∀ i, i < zs.length → w.cell? (x.add i) = some (.int .u8 (zs.getD i 0))) ∧ ∀ n ∈ zs, (Lit.int .u8 n).wf = true) :
    len ≤ cap ∧ len ≤ 9223372036854775807 ∧ ∃ f, Rd .u8 w a len f ∧ ∀ j, j < len → f j < 256 := by
  rcases h with ⟨rfl, rfl, rfl, rfl⟩ | ⟨x, rfl, hl, hm, hz, hcell, hwf⟩
  · exact ⟨Nat.le_refl _, by omega, fun _ => 0, Rd.zero, fun j hj => absurd hj (by omega)⟩
  · have hb : ∀ j, j < len → 0 ≤ zs.getD j 0 ∧ zs.getD j 0 < 256 := fun j hj => by
      have hjl : j < zs.length := by omega
      have hmem : zs.getD j 0 ∈ zs := by
        rw [List.getD, List.getElem?_eq_getElem hjl]; exact List.getElem_mem hjl
      have := hwf _ hmem
      generalize zs.getD j 0 = q at this ⊢
      simp [Lit.wf, IntKind.min, IntKind.max, IntKind.bits, IntKind.signed] at this
      omega
    refine ⟨hl, by simp only [maxLen] at hm; omega, fun j => (zs.getD j 0).toNat, fun j hj => ⟨x, rfl, ?_⟩, fun j hj => by
      have := hb j hj
      show (zs.getD j 0).toNat < 256
      generalize zs.getD j 0 = q at this ⊢
      omega⟩
    rw [hcell j (by omega), Int.toNat_of_nonneg (hb j hj).1]

end Go.Proofs.Yteeomidlnijfbaa

/- What came in reads as: rows of bytes, lists of them. -/
namespace Go.Proofs.Yteeomidlnijfbaa
open Go.ChangeShapes Go.WideShapes Go.ChangeAt Go.RowKit
set_option linter.unusedSimpArgs false
set_option linter.unusedVariables false

/-- A row of bytes, as it came in. -/
structure RowE where
  A : Option Addr
  n : Nat
  c : Nat
  f : Nat → Nat
abbrev RowE.val (r : RowE) : Value := .slice r.A r.n r.c
def RowE.good (r : RowE) (w : World) : Prop := Byt w (.slice r.A r.n r.c) r.n r.f ∧ r.n ≤ 9223372036854775807
theorem RowE.good.below {r : RowE} {w w' : World} (h : r.good w) (hb : Below w.heap.size w w') : r.good w' := ⟨h.1.below hb, h.2⟩
/-- A list of rows. -/
def RowsE (w : World) (A : Option Addr) (n : Nat) (X : Nat → RowE) : Prop := ∀ i, i < n → ∃ ad, A = some ad ∧ w.cell? (ad.add i) = some (X i).val ∧ (X i).good w
theorem RowsE.below {w w' : World} {A : Option Addr} {n : Nat} {X : Nat → RowE} (h : RowsE w A n X) (hb : Below w.heap.size w w') : RowsE w' A n X := fun i hi => by
  obtain ⟨ad, e, h1, h2⟩ := h i hi
  exact ⟨ad, e, (hb.cell (block_lt_of_cell h1)).trans h1, h2.below hb⟩
section
variable {H : Type} {enc : TypeId × Value → H} {W : World} {base m : Nat} {held : Bool} {c : Value} {y : DataW H × List MemPlace}
set_option maxRecDepth 100000 in
theorem row_trod (h : DataW.trod enc Try.prog W base (fun _ => true) held m 35 [c] = some y) : ∃ r : RowE, c = r.val ∧ r.good W := by
  have hrow : ∃ (s : Option Addr) (l' c' : Nat) (zs : List Int), c = .slice s l' c' ∧ ((s = none ∧ l' = 0 ∧ c' = 0 ∧ zs = []) ∨ ∃ x, s = some x ∧ l' ≤ c' ∧ c' ≤ maxLen ∧ zs.length = c' ∧ (∀ i, i < zs.length → W.cell? (x.add i) = some (.int .u8 (zs.getD i 0))) ∧ ∀ n ∈ zs, (Lit.int .u8 n).wf = true) := by
    rcases open_ints Try.underlying35 Try.underlying5 (by kernel_rfl) h with ⟨hcs, _⟩ | ⟨x, l', c', zs, hcs, _, hl', hm', hz', _, hcell, hwz⟩
    · simp at hcs
      exact ⟨none, 0, 0, [], hcs, .inl ⟨rfl, rfl, rfl, rfl⟩⟩
    · simp at hcs
      exact ⟨some x, l', c', zs, hcs, .inr ⟨x, rfl, hl', hm', by simpa using hz', hcell, hwz⟩⟩
  obtain ⟨a, l', c', zs, rfl, hr⟩ := hrow
  obtain ⟨r1, r2, f, r3, r4⟩ := bytes_of hr
  exact ⟨⟨a, l', c', f⟩, rfl, ⟨a, c', rfl, r1, r3, r4⟩, r2⟩
set_option maxRecDepth 100000 in
theorem rows_trod (h : DataW.trod enc Try.prog W base (fun _ => true) held m 32 [c] = some y) : ∃ (A : Option Addr) (n k : Nat) (X : Nat → RowE), c = .slice A n k ∧ n ≤ 9223372036854775807 ∧ RowsE W A n X := by
  rcases DataW.trod_slice Try.underlying32 h with ⟨hcs, _⟩ | ⟨a, l, k, elems, rest, n, _, hcs, _, hb, hl, hm, hlen, hel, _⟩
  · simp at hcs
    exact ⟨none, 0, 0, fun _ => ⟨none, 0, 0, fun _ => 0⟩, hcs, by omega, fun i hi => absurd hi (by omega)⟩
  · simp at hcs
    have each : ∀ i, ∃ t : RowE, i < l → W.cell? (a.add i) = some t.val ∧ t.good W := fun i => by
      by_cases hi : i < l
      · have he := hel i hi
        obtain ⟨y, hy⟩ : ∃ y, elems[i]? = some y := ⟨elems[i], List.getElem?_eq_getElem (by omega)⟩
        rw [hy, Option.bind_eq_some_iff, cellsRow] at he
        obtain ⟨cs, hc, ht⟩ := he
        obtain ⟨_, hcl, hcc⟩ := World.cells?_some hc
        obtain ⟨c0, rfl⟩ : ∃ c0, cs = [c0] := by
          match cs, hcl with
          | [c0], _ => exact ⟨c0, rfl⟩
        have q0 := hcc 0 (by omega)
        obtain ⟨r, rfl, hr⟩ := row_trod ht
        have e00 : (a.add (i * 1)).add 0 = a.add i := by rw [Nat.mul_one]; rfl
        rw [e00] at q0
        exact ⟨r, fun _ => ⟨q0, hr⟩⟩
      · exact ⟨⟨none, 0, 0, fun _ => 0⟩, fun h => absurd h hi⟩
    obtain ⟨g, hg⟩ := Classical.axiomOfChoice each
    exact ⟨some a, l, k, g, hcs, by simp only [maxLen] at hm; omega, fun i hi => ⟨a, rfl, (hg i hi).1, (hg i hi).2⟩⟩
end
set_option maxRecDepth 100000 in
theorem rows_open {H : Type} {enc : TypeId × Value → H} {W : World} {base b0 : Nat} {held : Bool} {r : Reach} {v : Value} {d : DataW H} {p : List MemPlace} (hv : Value.okWide Try.prog W r b0 32 v) (h : DataW.Trod enc Try.prog W base (fun _ => true) held 32 v d p) :
    ∃ (A : Option Addr) (len cap : Nat) (X : Nat → RowE), v = .slice A len cap ∧ len ≤ 9223372036854775807 ∧ RowsE W A len X := by
  obtain ⟨A, len, cap, rfl⟩ := okWide_slice Try.underlying32 hv
  obtain ⟨fuel, hf⟩ := h
  obtain ⟨A', n, k, X, e, h1, h2⟩ := rows_trod (by simpa [Value.cells] using hf)
  exact ⟨A', n, k, X, e, h1, h2⟩
end Go.Proofs.Yteeomidlnijfbaa

/- RootFlips: what a save that is cut short leaves. -/
namespace Go.Proofs.Yteeomidlnijfbaa
open Go.RowKit
set_option linter.unusedSimpArgs false
set_option linter.unusedVariables false

/-- The root of this generation lies in its sector, and none greater in the other. -/
def Flp (T : Nat → Option (Nat → Nat)) (g : Nat) : Prop := T (g % 2) = some (rootF g) ∧ sayN (1 - g % 2) (T (1 - g % 2)) ≤ g ∧ g < 4294967296
theorem Flp.load {T : Nat → Option (Nat → Nat)} {g : Nat} (h : Flp T g) : (Sti 2 T).load = (g, 0) := by
  obtain ⟨h1, h2, h3⟩ := h
  rw [sti_load (by omega), two_max (fun i => sayN i (T i)) (a := g % 2) (by omega)]
  show (max (sayN (g % 2) (T (g % 2))) (sayN (1 - g % 2) (T (1 - g % 2))), (0 : Int)) = _
  rw [h1, say_root h3, if_pos rfl, Nat.max_eq_left h2]
theorem Flp.next {T : Nat → Option (Nat → Nat)} {g : Nat} (h : Flp T g) (hg : g + 1 < 4294967296) : Flp (setT T ((g + 1) % 2) (some (rootF (g + 1)))) (g + 1) := by
  obtain ⟨h1, h2, h3⟩ := h
  refine ⟨if_pos rfl, ?_, hg⟩
  have e : setT T ((g + 1) % 2) (some (rootF (g + 1))) (1 - (g + 1) % 2) = some (rootF g) := (if_neg (by omega)).trans (by rw [show 1 - (g + 1) % 2 = g % 2 from by omega]; exact h1)
  rw [e, say_root h3]
  split <;> omega
theorem Flp.torn {T : Nat → Option (Nat → Nat)} {g : Nat} (h : Flp T g) : Flp (setT T ((g + 1) % 2) none) g := by
  obtain ⟨h1, h2, h3⟩ := h
  refine ⟨(if_neg (by omega)).trans h1, ?_, h3⟩
  have e : setT T ((g + 1) % 2) none (1 - g % 2) = none := if_pos (by omega)
  rw [e]
  exact Nat.zero_le _
/-- What a save leaves, the power planned to go, behind whatever choices. -/
def FlipTo (T T' : Nat → Option (Nat → Nat)) (g : Nat) (k : Int) : Prop := T' = setT T ((g + 1) % 2) (some (rootF (g + 1))) ∨ (k ≠ 0 ∧ (T' = T ∨ T' = setT T ((g + 1) % 2) none))
theorem up_one (T : Nat → Option (Nat → Nat)) (i : Nat) (f : Nat → Nat) (cs : List Nat) : upT T [(i, f)] cs = setT T i (some f) ∨ upT T [(i, f)] cs = T ∨ upT T [(i, f)] cs = setT T i none := by
  cases cs with
  | nil => exact .inr (.inl rfl)
  | cons c cs =>
    show upT (if c % 3 = 1 then setT T i (some f) else if c % 3 = 2 then setT T i none else T) [] cs = _ ∨ _
    have e : ∀ U : Nat → Option (Nat → Nat), upT U [] cs = U := fun U => by cases cs <;> rfl
    rw [show upT T [(i, f)] (c :: cs) = upT (if c % 3 = 1 then setT T i (some f) else if c % 3 = 2 then setT T i none else T) [] cs from rfl, e]
    split
    · exact .inl rfl
    · split
      · exact .inr (.inr rfl)
      · exact .inr (.inl rfl)
theorem flip_step {T : Nat → Option (Nat → Nat)} {g s : Nat} (hs : s < 4) (cs : List Nat) : ∃ T', (((Sti 2 T).plan (s : Nat)).save (g + 1)).1.up cs = Sti 2 T' ∧ FlipTo T T' g (((Sti 2 T).plan (s : Nat)).save (g + 1)).2 ∧ (((Sti 2 T).plan (s : Nat)).save (g + 1)).1.P.length ≤ 1 := by
  have hh : hasB 2 (((g + 1) % 2 : Nat) : Int) = true := hasB_yes (by omega)
  have e0 : ∀ U : Nat → Option (Nat → Nat), upT U [] cs = U := fun U => by cases cs <;> rfl
  have hsv : ∀ S : DS, S.n = 2 → S.save (g + 1) = if (S.write (((g + 1) % 2 : Nat) : Int) (rootF (g + 1))).2 = 0 then (S.write (((g + 1) % 2 : Nat) : Int) (rootF (g + 1))).1.flush else S.write (((g + 1) % 2 : Nat) : Int) (rootF (g + 1)) := fun S hS => by
    unfold DS.save
    rw [if_neg (by omega)]
  rw [hsv _ rfl]
  have hpl : (Sti 2 T).plan (s : Nat) = ⟨2, T, [], false, s⟩ := rfl
  rw [hpl]
  rcases (by omega : s = 0 ∨ s = 1 ∨ s = 2 ∨ s = 3) with rfl | rfl | rfl | rfl
  · have hw : (⟨2, T, [], false, 0⟩ : DS).write (((g + 1) % 2 : Nat) : Int) (rootF (g + 1)) = (⟨2, T, [((g + 1) % 2, rootF (g + 1))], false, 0⟩, 0) := sti_write (by omega) _
    rw [hw]
    refine ⟨_, ?_, .inl rfl, by show 0 ≤ 1; omega⟩
    show DS.up ⟨2, _, [], false, 0⟩ cs = _
    exact sti_up cs
  · have hw : (⟨2, T, [], false, 1⟩ : DS).write (((g + 1) % 2 : Nat) : Int) (rootF (g + 1)) = (⟨2, T, [], true, 0⟩, 4) := by
      unfold DS.write
      rw [hh]
      rfl
    rw [hw]
    refine ⟨T, ?_, .inr ⟨(show (4 : Int) ≠ 0 from by decide), .inl rfl⟩, by show 0 ≤ 1; omega⟩
    show (⟨2, upT T [] cs, [], false, 0⟩ : DS) = _
    rw [e0]
  · have hw : (⟨2, T, [], false, 2⟩ : DS).write (((g + 1) % 2 : Nat) : Int) (rootF (g + 1)) = (⟨2, T, [((g + 1) % 2, rootF (g + 1))], false, 1⟩, 0) := by
      unfold DS.write
      rw [hh]
      rfl
    rw [hw]
    refine ⟨upT T [((g + 1) % 2, rootF (g + 1))] cs, rfl, ?_, by show 1 ≤ 1; omega⟩
    rcases up_one T ((g + 1) % 2) (rootF (g + 1)) cs with e | e | e
    · exact .inl e
    · exact .inr ⟨(show (4 : Int) ≠ 0 from by decide), .inl e⟩
    · exact .inr ⟨(show (4 : Int) ≠ 0 from by decide), .inr e⟩
  · have hw : (⟨2, T, [], false, 3⟩ : DS).write (((g + 1) % 2 : Nat) : Int) (rootF (g + 1)) = (⟨2, T, [((g + 1) % 2, rootF (g + 1))], false, 2⟩, 0) := by
      unfold DS.write
      rw [hh]
      rfl
    rw [hw]
    refine ⟨setT T ((g + 1) % 2) (some (rootF (g + 1))), ?_, .inl rfl, by show 0 ≤ 1; omega⟩
    show (⟨2, upT (setT T ((g + 1) % 2) (some (rootF (g + 1)))) [] cs, [], false, 0⟩ : DS) = _
    rw [e0]
theorem FlipTo.flp {T T' : Nat → Option (Nat → Nat)} {g : Nat} {k : Int} (h : FlipTo T T' g k) (hf : Flp T g) (hg : g + 1 < 4294967296) : Flp T' (g + 1) ∨ (k ≠ 0 ∧ Flp T' g) := by
  rcases h with rfl | ⟨h0, rfl | rfl⟩
  · exact .inl (hf.next hg)
  · exact .inr ⟨h0, hf⟩
  · exact .inr ⟨h0, hf.torn⟩
end Go.Proofs.Yteeomidlnijfbaa
