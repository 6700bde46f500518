/- LedgerGens: its parts. -/
import Derived.Test.YtmcbmbcfgefocaaPGx
namespace Go.Proofs.Ytmcbmbcfgefocaa
open Go.ChangeShapes Go.WideShapes Go.ChangeAt Go.RowKit Go.Shelf
set_option linter.unusedSimpArgs false
set_option linter.unusedVariables false

/-- A list of lists of rows, as it came in. -/
structure ListE where
  A : Option Addr
  n : Nat
  c : Nat
  X : Nat → RowE
def ListE.val (l : ListE) : Value := .slice l.A l.n l.c
def ListE.good (l : ListE) (w : World) : Prop := l.n ≤ 9223372036854775807 ∧ RowsE w l.A l.n l.X
def ListsE (w : World) (A : Option Addr) (n : Nat) (Y : Nat → ListE) : Prop := ∀ i, i < n → ∃ ad, A = some ad ∧ w.cell? (ad.add i) = some (Y i).val ∧ (Y i).good w
theorem cellsRows33 : Try.prog.cellsOf 33 = 1 := by kernel_rfl
set_option maxRecDepth 100000 in
theorem lists_open {H : Type} {enc : TypeId × Value → H} {W : World} {base b0 : Nat} {held : Bool} {r : Reach} {v : Value} {d : DataW H} {p : List MemPlace} (hv : Value.okWide Try.prog W r b0 22 v) (h : DataW.Trod enc Try.prog W base (fun _ => true) held 22 v d p) :
    ∃ (A : Option Addr) (len cap : Nat) (Y : Nat → ListE), v = .slice A len cap ∧ len ≤ 9223372036854775807 ∧ ListsE W A len Y := by
  obtain ⟨A, len, cap, rfl⟩ := okWide_slice Try.underlying22 hv
  obtain ⟨fuel, hf⟩ := h
  have hf : DataW.trod enc Try.prog W base (fun _ => true) held fuel 22 [Value.slice A len cap] = some (d, p) := by simpa [Value.cells] using hf
  rcases DataW.trod_slice Try.underlying22 hf with ⟨hcs, _⟩ | ⟨a, l, k, elems, rest, n, _, hcs, _, hb, hl, hm, hlen, hel, _⟩
  · simp at hcs
    obtain ⟨rfl, rfl, rfl⟩ := hcs
    exact ⟨none, 0, 0, fun _ => ⟨none, 0, 0, fun _ => ⟨none, 0, 0, fun _ => 0⟩⟩, rfl, by omega, fun i hi => absurd hi (by omega)⟩
  · simp at hcs
    obtain ⟨rfl, rfl, rfl⟩ := hcs
    have each : ∀ i, ∃ t : ListE, i < len → W.cell? (a.add i) = some t.val ∧ t.good W := fun i => by
      by_cases hi : i < len
      · have he := hel i hi
        obtain ⟨y, hy⟩ : ∃ y, elems[i]? = some y := ⟨elems[i], List.getElem?_eq_getElem (by omega)⟩
        rw [hy, Option.bind_eq_some_iff, cellsRows33] at he
        obtain ⟨cs, hc, ht⟩ := he
        obtain ⟨_, hcl, hcc⟩ := World.cells?_some hc
        obtain ⟨c0, rfl⟩ : ∃ c0, cs = [c0] := by
          match cs, hcl with
          | [c0], _ => exact ⟨c0, rfl⟩
        have q0 := hcc 0 (by omega)
        obtain ⟨A2, n2, k2, X2, rfl, hn2, hX2⟩ := rows_trod ht
        have e00 : (a.add (i * 1)).add 0 = a.add i := by rw [Nat.mul_one]; rfl
        rw [e00] at q0
        exact ⟨⟨A2, n2, k2, X2⟩, fun _ => ⟨q0, hn2, hX2⟩⟩
      · exact ⟨⟨none, 0, 0, fun _ => ⟨none, 0, 0, fun _ => 0⟩⟩, fun h => absurd h hi⟩
    obtain ⟨g, hg⟩ := Classical.axiomOfChoice each
    exact ⟨some a, len, cap, g, rfl, by simp only [maxLen] at hm; omega, fun i hi => ⟨a, rfl, (hg i hi).1, (hg i hi).2⟩⟩
/-- Whether all are records. -/
def rightB (R : Nat → RowD) : Nat → Bool
  | 0 => true
  | k + 1 => if rightB R k = true then decide (needF (R k).n ≠ 0) else false
theorem right_iff {R : Nat → RowD} : ∀ {k : Nat}, rightB R k = true ↔ ∀ i, i < k → needF (R i).n ≠ 0
  | 0 => ⟨fun _ i hi => absurd hi (by omega), fun _ => rfl⟩
  | k + 1 => by
    unfold rightB
    by_cases h : rightB R k = true
    · rw [if_pos h, decide_eq_true_eq]
      refine ⟨fun h1 i hi => ?_, fun h1 => h1 k (by omega)⟩
      by_cases hik : i < k
      · exact right_iff.1 h i hik
      · obtain rfl : i = k := by omega
        exact h1
    · rw [if_neg h]
      exact ⟨(fun h1 => by cases h1), fun h1 => absurd (right_iff.2 fun i hi => h1 i (by omega)) h⟩
theorem half200 : halfN 200 = 99 := by decide
section
variable {w0 w w' : World} {gl gd g i n : Nat} {R : Nat → RowD} {rs : List Rec}
/-- A ledger between two rounds. -/
def Gn (w0 w : World) (gl gd g i : Nat) : Prop := ∃ M used rs, M ≤ 200 * i ∧ Lg w0 w gl gd 200 M g used rs (fun _ => False)
theorem Gn.below (h : Gn w0 w gl gd g i) (hb : Below w.heap.size w w') : Gn w0 w' gl gd g i := by
  obtain ⟨M, used, rs, h1, h2⟩ := h
  exact ⟨M, used, rs, h1, h2.below hb⟩
theorem Gn.bel (h : Gn w0 w gl gd g i) : Below w0.heap.size w0 w := by
  obtain ⟨M, used, rs, h1, h2⟩ := h
  exact h2.bel
/-- A ledger that was compacted to these. -/
def Gc (w0 w : World) (gl gd g i sm : Nat) (rs : List Rec) : Prop := ∃ M, M ≤ 200 * i ∧ Lg w0 w gl gd 200 M g sm rs (fun _ => False)
theorem Gn.compact (h : Gn w0 w gl gd g i) (hi : i ≤ 12) (hg : g ≤ i) {A : Option Addr} {c : Nat} (hR : RowsIn w0 A n R) (hn : n < 40) :
    Calls Try.prog 12 #[.pointer (some ⟨gl, 0, none⟩), .slice A n c] w fun e w' => ((rightB R n = true ∧ sumN R n ≤ 99) ∧ e = .returned (.int .i64 0) ∧ Gc w0 w' gl gd (g + 1) (i + 1) (sumN R n) (recsOf R n)) ∨ (¬ (rightB R n = true ∧ sumN R n ≤ 99) ∧ (∃ k : Int, k ≠ 0 ∧ e = .returned (.int .i64 k)) ∧ Gn w0 w' gl gd g i) := by
  obtain ⟨M, used, rs, h1, h2⟩ := h
  refine (h2.compact (by omega) (by omega) (by omega) (R := R) (n := n) (c := c) (fun V _ hV => hR.below hV) (by omega)).mono ?_
  rintro e w' ⟨_, ⟨hok, rfl, hl⟩ | ⟨hno, hk, hl⟩⟩
  · refine .inl ⟨⟨right_iff.2 hok.1, by have := hok.2.2.1; rw [half200] at this; exact this⟩, rfl, M + n, by omega, hl⟩
  · refine .inr ⟨fun hh => hno ⟨right_iff.1 hh.1, by omega, by rw [half200]; exact hh.2, by omega⟩, hk, M, used, rs, h1, hl⟩
theorem Gc.gen {sm : Nat} (h : Gc w0 w gl gd g i sm rs) : Calls Try.prog 13 #[.pointer (some ⟨gl, 0, none⟩)] w fun e w' => e = .returned (.int .u32 (g : Nat)) ∧ w = w' := by
  obtain ⟨M, h1, h2⟩ := h
  exact h2.gen
theorem Gc.below {sm : Nat} (h : Gc w0 w gl gd g i sm rs) (hb : Below w.heap.size w w') : Gc w0 w' gl gd g i sm rs := by
  obtain ⟨M, h1, h2⟩ := h
  exact ⟨M, h1, h2.below hb⟩
theorem Gc.bel {sm : Nat} (h : Gc w0 w gl gd g i sm rs) : Below w0.heap.size w0 w := by
  obtain ⟨M, h1, h2⟩ := h
  exact h2.bel
theorem Gc.used {sm : Nat} (h : Gc w0 w gl gd g i sm rs) : Calls Try.prog 14 #[.pointer (some ⟨gl, 0, none⟩)] w fun e w' => e = .returned (.int .i64 (sm : Nat)) ∧ Below w.heap.size w w' := by
  obtain ⟨M, h1, h2⟩ := h
  exact h2.used_ (by omega) (by omega)
theorem Gc.free {sm : Nat} (h : Gc w0 w gl gd g i sm rs) : Calls Try.prog 15 #[.pointer (some ⟨gl, 0, none⟩)] w fun e w' => e = .returned (.int .i64 ((99 : Int) - (sm : Nat))) ∧ Below w.heap.size w w' := by
  obtain ⟨M, h1, h2⟩ := h
  have hu := h2.few.2.2
  rw [half200] at hu
  refine h2.free.mono fun e w' hp => ⟨?_, hp.2⟩
  rw [hp.1, half200]
  congr 2
  omega
theorem Gc.records {sm : Nat} (h : Gc w0 w gl gd g i sm rs) : Calls Try.prog 17 #[.pointer (some ⟨gl, 0, none⟩)] w fun e w' => ∃ A c, e = .returned (.slice A rs.length c) ∧ RowsBy w' (.slice A rs.length c) rs ∧ Below w.heap.size w w' := by
  obtain ⟨M, h1, h2⟩ := h
  refine h2.records.mono ?_
  rintro e w' ⟨⟨v', rfl, hl⟩, hb⟩
  obtain ⟨A, c, rfl⟩ := hl.form
  exact ⟨A, c, rfl, hl.by_, hb⟩
theorem Gc.up {sm : Nat} (h : Gc w0 w gl gd g i sm rs) : Calls Try.prog 18 #[.pointer (some ⟨gd, 0, none⟩), .slice none 0 0] w fun e w' => e = .returned (.tuple #[]) ∧ ∃ M, M ≤ 200 * i ∧ Dg w0 w' gd 200 M g sm rs (fun _ => False) := by
  obtain ⟨M, h1, h2⟩ := h
  exact h2.disk.up.mono fun e w' hp => ⟨hp.1, M, h1, hp.2.1⟩
theorem gc_open {sm : Nat} (h : ∃ M, M ≤ 200 * i ∧ Dg w0 w gd 200 M g sm rs (fun _ => False)) : Calls Try.prog 9 #[.pointer (some ⟨gd, 0, none⟩)] w fun e w' => ∃ gl rs2, e = .returned (.tuple #[.pointer (some ⟨gl, 0, none⟩), .int .i64 0]) ∧ SameL rs rs2 ∧ Gc w0 w' gl gd g i sm rs2 := by
  obtain ⟨M, h1, h2⟩ := h
  refine (h2.open_ (by omega) (by omega)).mono ?_
  rintro e w' ⟨gl, rs2, rfl, hs, hl, _⟩
  exact ⟨gl, rs2, rfl, hs, M, h1, hl⟩
end
end Go.Proofs.Ytmcbmbcfgefocaa
