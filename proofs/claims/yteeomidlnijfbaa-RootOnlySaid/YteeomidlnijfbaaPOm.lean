/- A list of arrays of 64 bytes that came in. -/
import Derived.Test.YteeomidlnijfbaaPOj
import Derived.Test.YteeomidlnijfbaaPOf
import Derived.Deep.WholeRow
namespace Go.Proofs.Yteeomidlnijfbaa
open Go.ChangeShapes Go.WideShapes Go.ChangeAt Go.RowKit
set_option linter.unusedSimpArgs false
set_option linter.unusedVariables false

/-- Arrays of 64 bytes, one behind the other. -/
def Arrs (w : World) (A : Option Addr) (n : Nat) (X : Nat → Nat → Nat) : Prop := ∀ i, i < n → ∃ ad, A = some ad ∧ (∀ j, j < 64 → w.cell? ((ad.add (i * 64)).add j) = some (.int .u8 (X i j : Nat))) ∧ ∀ j, j < 64 → X i j < 256
theorem Arrs.below {w w' : World} {A : Option Addr} {n : Nat} {X : Nat → Nat → Nat} (h : Arrs w A n X) (hb : Below w.heap.size w w') : Arrs w' A n X := fun i hi => by
  obtain ⟨ad, e, h1, h2⟩ := h i hi
  exact ⟨ad, e, fun j hj => (hb.cell (block_lt_of_cell (h1 j hj))).trans (h1 j hj), h2⟩
theorem cells64 : Try.prog.cellsOf 68 = 64 := by kernel_rfl
theorem cells8R : Try.prog.cellsOf 5 = 1 := by kernel_rfl
section
variable {H : Type} {enc : TypeId × Value → H} {W : World} {base m : Nat} {held : Bool} {y : DataW H × List MemPlace}
set_option maxRecDepth 100000 in
theorem arr_trod {cs : List Value} (h : DataW.trod enc Try.prog W base (fun _ => true) held m 68 cs = some y) : ∃ f : Nat → Nat, ∀ j, j < 64 → cs[j]? = some (.int .u8 (f j : Nat)) ∧ f j < 256 := by
  obtain ⟨xs, k, _, _, hl, hx, hf⟩ := DataW.trod_array Try.underlying68 h
  rw [cells64] at hl
  rw [cells8R] at hf
  have each : ∀ j, ∃ t : Nat, j < 64 → cs[j]? = some (.int .u8 (t : Nat)) ∧ t < 256 := fun j => by
    by_cases hj : j < 64
    · have h1 := hf j hj
      obtain ⟨y, hy⟩ : ∃ y, xs[j]? = some y := ⟨xs[j], List.getElem?_eq_getElem (by omega)⟩
      rw [hy] at h1
      obtain ⟨v, e, _, fl⟩ := DataW.trod_int Try.underlying5 h1
      have hb : 0 ≤ v ∧ v < 256 := by simp [Lit.wf, IntKind.min, IntKind.max, IntKind.bits, IntKind.signed] at fl; omega
      refine ⟨v.toNat, fun _ => ⟨?_, by omega⟩⟩
      have e2 := congrArg (fun l : List Value => l[0]?) e
      simp [Nat.mul_one] at e2
      rw [e2, Int.toNat_of_nonneg hb.1]
    · exact ⟨0, fun h => absurd h hj⟩
  obtain ⟨g, hg⟩ := Classical.axiomOfChoice each
  exact ⟨g, hg⟩
end
set_option maxRecDepth 100000 in
theorem arrs_open {H : Type} {enc : TypeId × Value → H} {W : World} {base b0 : Nat} {held : Bool} {r : Reach} {v : Value} {d : DataW H} {p : List MemPlace} (hv : Value.okWide Try.prog W r b0 67 v) (h : DataW.Trod enc Try.prog W base (fun _ => true) held 67 v d p) :
    ∃ (A : Option Addr) (len cap : Nat) (X : Nat → Nat → Nat), v = .slice A len cap ∧ len ≤ 9223372036854775807 ∧ Arrs W A len X := by
  obtain ⟨A, len, cap, rfl⟩ := okWide_slice Try.underlying67 hv
  obtain ⟨fuel, hf⟩ := h
  rcases DataW.trod_slice Try.underlying67 hf with ⟨hcs, _⟩ | ⟨a, l, c, elems, rest, n, _, hcs, _, hb, hl, hm, hlen, hel, _⟩
  · simp [Value.cells] at hcs
    obtain ⟨rfl, rfl, rfl⟩ := hcs
    exact ⟨none, 0, 0, fun _ _ => 0, rfl, by omega, fun i hi => absurd hi (by omega)⟩
  · simp [Value.cells] at hcs
    obtain ⟨rfl, rfl, rfl⟩ := hcs
    have each : ∀ i, ∃ t : Nat → Nat, i < len → (∀ j, j < 64 → W.cell? ((a.add (i * 64)).add j) = some (.int .u8 (t j : Nat))) ∧ ∀ j, j < 64 → t j < 256 := fun i => by
      by_cases hi : i < len
      · have he := hel i hi
        obtain ⟨y, hy⟩ : ∃ y, elems[i]? = some y := ⟨elems[i], List.getElem?_eq_getElem (by omega)⟩
        rw [hy, Option.bind_eq_some_iff, cells64] at he
        obtain ⟨cs, hc, ht⟩ := he
        obtain ⟨_, hcl, hcc⟩ := World.cells?_some hc
        obtain ⟨f, hf⟩ := arr_trod ht
        exact ⟨f, fun _ => ⟨fun j hj => (hcc j (by omega)).trans (hf j hj).1, fun j hj => (hf j hj).2⟩⟩
      · exact ⟨fun _ => 0, fun h => absurd h hi⟩
    obtain ⟨g, hg⟩ := Classical.axiomOfChoice each
    exact ⟨some a, len, cap, g, rfl, by simp only [maxLen] at hm; omega, fun i hi => ⟨a, rfl, hg i hi⟩⟩
/-- 64 bytes as cells. -/
def cells_of (f : Nat → Nat) : Array Value := ((List.range 64).map fun j => Value.int .u8 (f j : Nat)).toArray
theorem cells_of_size (f : Nat → Nat) : (cells_of f).size = 64 := by simp [cells_of]
theorem cells_of_at {f : Nat → Nat} {j : Nat} (hj : j < 64) : (cells_of f)[j]? = some (.int .u8 (f j : Nat)) := by simp [cells_of, hj]
theorem load_cells {w : World} {ad : Addr} {f : Nat → Nat} (h : ∀ j, j < 64 → w.cell? (ad.add j) = some (.int .u8 (f j : Nat))) : (loadCellsFrom ad 0 64 #[]).run Try.prog w = .ok (cells_of f) w := by
  have := run_loadCellsFrom (P := Try.prog) (w := w) ad (fun j => .int .u8 (f j : Nat)) 64 0 #[] (fun j hj => by simpa using h j hj)
  rw [this]
  simp [cells_of]
theorem cells_of_row (w : World) (f : Nat → Nat) : (w.alloc (.cells (cells_of f) 68)).rowIs w.heap.size 68 64 fun j => .int .u8 (f j : Nat) :=
  World.rowIs_alloc w _ _ _ fun i hi => by
    rw [cells_of_size] at hi
    exact cells_of_at hi
theorem load_var {w : World} {ad : Addr} {f : Nat → Nat} (h : ∀ j, j < 64 → w.cell? (ad.add j) = some (.int .u8 (f j : Nat))) : (loadVar 68 ad).run Try.prog w = .ok (.agg (cells_of f)) w := by
  have h1 : (isAgg 68).run Try.prog w = .ok true w := by kernel_rfl
  have h2 : (sizeOf 68).run Try.prog w = .ok 64 w := by kernel_rfl
  have h3 := load_cells h
  simp [loadVar, Sem.run_bind, h1, h2, loadCells, h3, Result.andThen]
theorem wpList_load_arr {P : Program} {ops : Array Oper} {rest : List Oper} {o : Oper} {a : Act} {w : World} {Q : Exit → Act → World → Prop} (hgd : o.guard = none) (ty : TypeId) (x : Operand) (ho : o.op = .load ty x) (ad : Addr) (hx : a.eval x = .pointer (some ad)) (cs : Array Value)
    (hl : (loadVar ty ad).run P w = .ok (.agg cs) w) (h : wpList P ops Q rest (a.put o.dst (.agg cs)) w) : wpList P ops Q (o :: rest) a w :=
  wpList_plain hgd fun _ hK => by
    unfold Oper.wp execOp
    simp only [ho, hx, Instr.loadAt, Instr.sureAddr, Sem.run_bind, Sem.run_pure, Result.andThen_ok, hl]
    exact hK _ _ h
end Go.Proofs.Yteeomidlnijfbaa

/- The walk of RootOnly. -/
namespace Go.Proofs.Yteeomidlnijfbaa
open Go.RowKit
set_option linter.unusedSimpArgs false
set_option linter.unusedVariables false

/-- With its 16th byte an x. -/
def rowX (f : Nat → Nat) : Nat → Nat := fun j => if j = 15 then 120 else f j
theorem rowX_say {f : Nat → Nat} (hf : ∀ j, j < 64 → f j < 256) (i : Nat) : sayN i (some (rowX f)) = 0 := say_not (fun j hj => by unfold rowX; split; omega; exact hf j hj) (.inr (by unfold rowX; rw [if_pos rfl]; omega))
/-- No sector says a root of its own. -/
def Mute (S : DS) (m : Nat) : Prop := S.n = 8 ∧ S.gone = false ∧ S.left = 0 ∧ S.P.length ≤ m ∧ ∀ i, sayN i (layT S.T S.P i) = 0
theorem mute_new : Mute (Sti 8 fun _ => some fun _ => 0) 0 := ⟨rfl, rfl, rfl, Nat.le_refl _, fun i => say_zero i⟩
theorem Mute.write {S : DS} {m i : Nat} (h : Mute S m) (hi : i < 8) {f : Nat → Nat} (hf : ∀ j, sayN j (some f) = 0) : (S.write (i : Nat) f).2 = 0 ∧ Mute (S.write (i : Nat) f).1 (m + 1) := by
  obtain ⟨h1, h2, h3, h4, h5⟩ := h
  have hh : hasB S.n (i : Nat) = true := by rw [h1]; exact hasB_yes hi
  have hb : S.begun = S := by unfold DS.begun; rw [if_pos h3]
  have hw : S.write (i : Nat) f = (S.wrote i f, 0) := by
    unfold DS.write
    rw [h2, hh, hb]
    simp [DS.ok, h3]
  rw [hw]
  refine ⟨rfl, h1, h2, h3, by simp [DS.wrote]; omega, fun j => ?_⟩
  show sayN j (layT S.T (S.P ++ [(i, f)]) j) = 0
  rw [layT_snoc]
  unfold setT
  split
  · exact hf j
  · exact h5 j
theorem Mute.flush {S : DS} {m : Nat} (h : Mute S m) : S.flush.2 = 0 ∧ S.flush.1.load = (0, 0) := by
  obtain ⟨h1, h2, h3, h4, h5⟩ := h
  have hb : S.begun = S := by unfold DS.begun; rw [if_pos h3]
  have hf : S.flush = (S.flushed, 0) := by
    unfold DS.flush
    rw [h2, hb]
    simp [DS.ok, h3]
  rw [hf]
  refine ⟨rfl, ?_⟩
  have e : S.flushed = Sti 8 (layT S.T S.P) := by
    unfold DS.flushed
    rw [h1, h2, h3]
  show S.flushed.load = _
  rw [e, sti_load (by omega), h5 0, h5 1]
  rfl
set_option maxRecDepth 100000 in
set_option maxHeartbeats 4000000 in
theorem root_only (w : World) {A : Option Addr} {m c : Nat} {X : Nat → Nat → Nat} (hv : Arrs w A m X) (hm : m ≤ 9223372036854775807) : Calls Try.prog 10 #[.slice A m c] w fun e w' => e = .returned (.bool true) ∧ Below w.heap.size w w' := by
  have HV : Hid (∀ u i, Below w.heap.size w u → i < m → ∃ ad, A = some ad ∧ (loadVar 68 (ad.add (i * 64))).run Try.prog u = .ok (.agg (cells_of (X i))) u ∧ (∀ j, j < 64 → X i j < 256)) := fun u i hu hi => by
    obtain ⟨ad, e, h1, h2⟩ := (hv.below hu) i hi
    exact ⟨ad, e, load_var h1, h2⟩
  have HNEW : Hid (∀ u, Below w.heap.size w u → Calls Try.prog 12 #[.int .i64 8] u fun e w' => ∃ gd, e = .returned (.tuple #[.pointer (some ⟨gd, 0, none⟩), .int .i64 0]) ∧ Held w w' gd (Sti 8 fun _ => some fun _ => 0) fun _ => True) := fun u hu => held_sti 8 (by omega) (by omega) hu
  clear hv
  go_enter Try.func10, Try.ntmps10
  go_wp2_with (first
    | (go_at_call 23; refine (awake8 _).mono ?_; rintro e w1 ⟨rfl, hb1⟩; have HB1 := Lib.hid hb1; clear hb1)
    | (go_at_call 12; refine (HNEW.out _ HB1.out).mono ?_; rintro e w2 ⟨gd, rfl, h2⟩; have H2 := Lib.hid h2; clear h2))
  go_loopw [5] (fun x5 wr => ∃ (i : Nat) (S : DS), i ≤ 8 ∧ i ≤ m ∧ x5 = .int .i64 (i : Nat) ∧ Mute S i ∧ Held w wr gd S fun _ => True) (fun x5 _ => 8 - (intOf x5).toNat)
  case atStart => exact ⟨0, _, by omega, by omega, rfl, mute_new, H2.out⟩
  case round =>
    obtain ⟨i, S, hi8, him, rfl, hmu, hh⟩ := hrel
    have HMU := Lib.hid hmu
    have HH := Lib.hid hh
    clear hmu hh
    by_cases hlt : i < m
    · by_cases h8 : i < 8
      · obtain ⟨ad, rfl, hld, hs⟩ := HV.out _ i HH.out.bel hlt
        generalize X i = f at *
        have HS := Lib.hid hs
        have j1 : (i : Int) < (m : Int) := by omega
        have j2 : (i : Int) < 8 := by omega
        have HROW := Lib.hid (cells_of_row wr f)
        have HCS : Hid ((cells_of f).size = 64) := cells_of_size f
        have HC1 : Hid ((cells_of f).all (·.oneCell') = true) := Lib.hid (by rw [Array.all_eq_true_iff_forall_mem]; intro v hv; simp [cells_of] at hv; obtain ⟨j, _, rfl⟩ := hv; rfl)
        have HLD := Lib.hid hld
        have HWR : Hid (Calls Try.prog 22 #[.pointer (some ⟨gd, 0, none⟩), .int .i64 (i : Nat), .slice (some ⟨wr.heap.size, 0, none⟩) 64 64] (wr.alloc (.cells ((cells_of f).setIfInBounds 15 (.int .u8 120)) 68)) fun e w' => e = .returned (.int .i64 0) ∧ ∃ S', Mute S' (i + 1) ∧ Held w w' gd S' fun _ => True) := by
          have hrow : (wr.alloc (.cells ((cells_of f).setIfInBounds 15 (.int .u8 120)) 68)).rowIs wr.heap.size 68 64 fun j => .int .u8 (rowX f j : Nat) := by
            have h0 := World.rowIs_alloc wr ((cells_of f).setIfInBounds 15 (.int .u8 120)) 68 (fun j => .int .u8 (rowX f j : Nat)) fun j hj => by
              rw [Array.size_setIfInBounds, cells_of_size] at hj
              rw [Array.getElem?_setIfInBounds]
              unfold rowX
              by_cases e : 15 = j
              · subst e
                rw [if_pos rfl, if_pos (by rw [cells_of_size]; omega), if_pos rfl]
                rfl
              · rw [if_neg e, if_neg (fun h => e h.symm)]
                exact cells_of_at hj
            rwa [Array.size_setIfInBounds, cells_of_size] at h0
          have h1 := (HH.out.more (Ψ := fun u => u.rowIs wr.heap.size 68 64 fun j => .int .u8 (rowX f j : Nat)) (below_new wr (.cells ((cells_of f).setIfInBounds 15 (.int .u8 120)) 68)) fun u hu _ => hrow.of_block (hu wr.heap.size (Nat.le_refl _) (by simp))).imp fun _ h => h.2
          obtain ⟨m1, m2⟩ := HMU.out.write (i := i) h8 (f := rowX f) fun j => rowX_say hs j
          have h2 := h1.write (by have := HMU.out.2.2.2.1; omega) (i : Nat) (a := some ⟨wr.heap.size, 0, none⟩) (c := 64) (f := rowX f) fun u hu => ⟨wr.heap.size, 0, 64, rfl, Nat.le_refl _, trivial, fun j hj => by rw [Nat.zero_add]; exact hu.cell hj, fun j hj => by unfold rowX; split; omega; exact hs j hj⟩
          rw [m1] at h2
          exact h2.mono fun e w' h => ⟨h.1, _, m2, h.2.imp fun _ _ => trivial⟩
        clear hs hld
        generalize cells_of f = C at *
        have c15 : (wr.alloc (.cells C 68)).cell? ⟨wr.heap.size, 15, none⟩ = some (.int .u8 (f 15 : Nat)) := HROW.out.cell (i := 15) (by omega)
        have z15 := HROW.out.frozen 15
        go_wp2_with (first
          | (refine wpList_load_arr rfl 68 _ rfl _ rfl _ HLD.out ?_)
          | (refine wpList_store_row rfl 68 _ _ rfl wr.heap.size C rfl rfl 68 _ (heap_alloc_last wr _) (by rw [HCS.out]; kernel_rfl) (by rw [HCS.out]; rfl) HC1.out ?_; rw [World.setRow_alloc_new])
          | (go_at_call 22; refine HWR.out.mono ?_; rintro e w3 ⟨rfl, S3, hm3, h3⟩; have HM3 := Lib.hid hm3; have H3 := Lib.hid h3; clear hm3 h3 c15 z15))
        refine ⟨⟨i + 1, S3, by omega, by omega, by rw [Int.natCast_add]; rfl, HM3.out, H3.out⟩, by simp [intOf]; omega⟩
      · obtain rfl : i = 8 := by omega
        have j1 : (8 : Int) < (m : Int) := by omega
        obtain ⟨m1, m2⟩ := HMU.out.flush
        have hfl := HH.out.flush
        rw [m1] at hfl
        have HFL := Lib.hid hfl
        have HLD : Hid (∀ u, Held w u gd S.flush.1 (fun _ => True) → Calls Try.prog 31 #[.pointer (some ⟨gd, 0, none⟩)] u fun e w' => e = .returned (.tuple #[.int .u32 0, .int .i64 0]) ∧ Below w.heap.size w w') := fun u h => by
          have := h.load
          rw [m2] at this
          exact this.mono fun e w' h => ⟨h.1, h.2.bel⟩
        clear m1 m2 hfl
        go_wp2_with (first
          | (go_at_call 35; refine HFL.out.mono ?_; rintro e w3 ⟨rfl, h3⟩; have H3 := Lib.hid h3; clear h3)
          | (go_at_call 31; refine (HLD.out _ H3.out).mono ?_; rintro e w4 ⟨rfl, h4⟩; have H4 := Lib.hid h4; clear h4))
        go_ret
        exact ⟨rfl, H4.out⟩
    · obtain rfl : i = m := by omega
      obtain ⟨m1, m2⟩ := HMU.out.flush
      have hfl := HH.out.flush
      rw [m1] at hfl
      have HFL := Lib.hid hfl
      have HLD : Hid (∀ u, Held w u gd S.flush.1 (fun _ => True) → Calls Try.prog 31 #[.pointer (some ⟨gd, 0, none⟩)] u fun e w' => e = .returned (.tuple #[.int .u32 0, .int .i64 0]) ∧ Below w.heap.size w w') := fun u h => by
        have := h.load
        rw [m2] at this
        exact this.mono fun e w' h => ⟨h.1, h.2.bel⟩
      clear m1 m2 hfl
      go_wp2_with (first
        | (go_at_call 35; refine HFL.out.mono ?_; rintro e w3 ⟨rfl, h3⟩; have H3 := Lib.hid h3; clear h3)
        | (go_at_call 31; refine (HLD.out _ H3.out).mono ?_; rintro e w4 ⟨rfl, h4⟩; have H4 := Lib.hid h4; clear h4))
      go_ret
      exact ⟨rfl, H4.out⟩
end Go.Proofs.Yteeomidlnijfbaa
