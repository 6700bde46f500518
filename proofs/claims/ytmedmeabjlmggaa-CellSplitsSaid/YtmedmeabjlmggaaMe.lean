/- What came in of CellSplits reads as; how great its parts may be. -/
import Derived.Test.YtmedmeabjlmggaaMd
import Derived.SizedLaws
namespace Go.Proofs.Ytmedmeabjlmggaa
open Go.ChangeShapes Go.WideShapes Go.ChangeAt Go.RowKit
set_option linter.unusedSimpArgs false
set_option linter.unusedVariables false

theorem bytes8 : Try.prog.bytesOf 5 = 1 := by kernel_rfl
set_option maxRecDepth 100000 in
theorem two_open {H : Type} {enc : TypeId × Value → H} {W : World} {base b0 : Nat} {held : Bool} {r : Reach} {v : Value} {d : DataW H} {p : List MemPlace} (hv : Value.okWide Try.prog W r b0 23 v) (h : DataW.Trod enc Try.prog W base (fun _ => true) held 23 v d p) :
    ∃ (e0 e1 : Nat), v = .agg #[.int .u32 (e0 : Nat), .int .u32 (e1 : Nat)] ∧ e0 < 4294967296 ∧ e1 < 4294967296 := by
  have hv' := hv
  simp only [Value.okWide, Try.underlying23] at hv'
  obtain ⟨cs, rfl, hn, _⟩ := hv'
  have h4 : Try.prog.cellsOf 23 = 2 := by kernel_rfl
  rw [h4] at hn
  obtain ⟨fuel, hf⟩ := h
  obtain ⟨l, rfl⟩ : ∃ l : List Value, cs = l.toArray := ⟨cs.toList, rfl⟩
  match l, hn with
  | [c0, c1], _ =>
    simp only [Value.cells] at hf
    obtain ⟨xs, m, _, _, _, hlen, hx⟩ := DataW.trod_array Try.underlying23 hf
    match xs, hlen with
    | [y0, y1], _ =>
      have h0 := hx 0 (by omega)
      have h1 := hx 1 (by omega)
      simp only [cellsU32, Nat.zero_mul, Nat.one_mul, List.drop_zero, List.drop_succ_cons, List.take_succ_cons, List.take_zero, List.getElem?_cons_zero, List.getElem?_cons_succ] at h0 h1
      obtain ⟨x0, e0, _, f0⟩ := DataW.trod_int Try.underlying22 h0
      obtain ⟨x1, e1, _, f1⟩ := DataW.trod_int Try.underlying22 h1
      simp at e0 e1
      subst e0 e1
      have b0 : 0 ≤ x0 ∧ x0 < 4294967296 := by simp [Lit.wf, IntKind.min, IntKind.max, IntKind.bits, IntKind.signed] at f0; omega
      have b1 : 0 ≤ x1 ∧ x1 < 4294967296 := by simp [Lit.wf, IntKind.min, IntKind.max, IntKind.bits, IntKind.signed] at f1; omega
      obtain ⟨x0, rfl⟩ : ∃ k : Nat, x0 = k := ⟨x0.toNat, by omega⟩
      obtain ⟨x1, rfl⟩ : ∃ k : Nat, x1 = k := ⟨x1.toNat, by omega⟩
      exact ⟨x0, x1, rfl, by omega, by omega⟩

set_option maxRecDepth 100000 in
/-- The bytes of a cell that came in: no more than the reading weighs. -/
theorem five_big {H : Type} {enc : TypeId × Value → H} {W : World} {base m : Nat} {held : Bool} {c0 c1 c2 c3 : Value} {A : Option Addr} {n c : Nat} {y : DataW H × List MemPlace} (ht : DataW.trod enc Try.prog W base (fun _ => true) held m 62 [c0, c1, c2, c3, .slice A n c] = some y) {N : Nat}
    (hN : ∀ k ∈ y.1.weights Try.prog 62, k ≤ N) : n ≤ N := by
  have hu := Try.underlying62
  obtain ⟨xs, q, _, rfl, hl, hlen, hf⟩ := DataW.trod_struct hu ht
  match xs, hlen with
  | [y0, y1, y2, y3, y4], _ =>
    have h4 : DataW.trod enc Try.prog W base (fun _ => true) held q 24 (([c0, c1, c2, c3, .slice A n c].drop 4).take (Try.prog.cellsOf 24)) = some y4 := hf 4 _ rfl
    simp only [cellsInt, cellsU32, cellsRow, List.drop_zero, List.drop_succ_cons, List.take_succ_cons, List.take_zero, List.getElem?_cons_zero, List.getElem?_cons_succ] at h4
    rcases open_ints Try.underlying24 Try.underlying5 (by kernel_rfl) h4 with ⟨hcs, _⟩ | ⟨x, l', c', zs, hcs, _, hl', hm', hz', hx, _⟩
    · simp at hcs
      have := hcs.2.1
      omega
    · simp at hcs
      obtain ⟨rfl, rfl, rfl⟩ := hcs
      rw [if_pos rfl] at hz'
      have hz2 : zs.length = c := hz'
      have hk : (zs.take n).length + (zs.drop n).length = c := by rw [List.length_take, List.length_drop]; omega
      have := hN ((zs.take n).length + (zs.drop n).length) (by
        have hu8 := Try.underlying24
        simp only [DataW.weights, hu, List.map_cons, List.map_nil, DataW.weightsEach, List.mem_append]
        refine .inr (.inr (.inr (.inr (.inl ?_))))
        rw [hx]
        simp only [DataW.weights, hu8, bytes8, List.mem_cons, Nat.mul_one, lits, List.length_map]
        exact .inl trivial)
      omega
theorem weights_all {H : Type} {P : Program} {e : TypeId} : ∀ {l : List (DataW H)} {i : Nat} {d : DataW H}, l[i]? = some d → ∀ k ∈ d.weights P e, k ∈ DataW.weightsAll P e l
  | [], _, _, h, _, _ => by simp at h
  | x :: l, 0, d, h, k, hk => by
    simp at h
    subst h
    simp only [DataW.weightsAll, List.mem_append]
    exact .inl hk
  | x :: l, i + 1, d, h, k, hk => by
    simp at h
    simp only [DataW.weightsAll, List.mem_append]
    exact .inr (weights_all h k hk)
set_option maxRecDepth 100000 in
theorem cells_big {H : Type} {enc : TypeId × Value → H} {W : World} {base : Nat} {held : Bool} {A : Option Addr} {len cap : Nat} {X : Nat → CellD} {d : DataW H} {p : List MemPlace} (h : DataW.Trod enc Try.prog W base (fun _ => true) held 25 (.slice A len cap) d p) (hX : CellsAt W A len X) {N : Nat}
    (hN : ∀ k ∈ d.weights Try.prog 25, k ≤ N) : ∀ i, i < len → (X i).n ≤ N := fun i hi => by
  obtain ⟨ad, rfl, hc⟩ := hX i hi
  obtain ⟨fuel, hf⟩ := h
  have hu := Try.underlying25
  rcases DataW.trod_slice hu hf with ⟨hcs, _⟩ | ⟨a, l, c, elems, rest, n, _, hcs, hx, hb, hl, hm, hlen, hel, _⟩
  · simp [Value.cells] at hcs
  · simp [Value.cells] at hcs
    obtain ⟨rfl, rfl, rfl⟩ := hcs
    have he := hel i hi
    obtain ⟨y, hy⟩ : ∃ y, elems[i]? = some y := ⟨elems[i], List.getElem?_eq_getElem (by omega)⟩
    rw [hy, Option.bind_eq_some_iff, cellsCell] at he
    obtain ⟨cs, hc2, ht⟩ := he
    obtain ⟨_, hcl, hcc⟩ := World.cells?_some hc2
    obtain ⟨c0, c1, c2, c3, c4, rfl⟩ : ∃ c0 c1 c2 c3 c4, cs = [c0, c1, c2, c3, c4] := by
      match cs, hcl with
      | [c0, c1, c2, c3, c4], _ => exact ⟨c0, c1, c2, c3, c4, rfl⟩
    have q4 := hcc 4 (by omega)
    obtain ⟨_, _, _, _, _, p5, _, _⟩ := hc
    have e4 : c4 = .slice (X i).A (X i).n (X i).c := by
      have := q4.symm.trans p5
      simpa using this
    subst e4
    refine five_big ht fun k hk => hN k ?_
    have hd : d = DataW.slice (elems.map (·.1)) (rest.map (·.1)) := congrArg Prod.fst hx
    rw [hd]
    simp only [DataW.weights, hu, List.mem_cons, List.mem_append]
    exact .inr (.inl (weights_all (i := i) (d := y.1) (by rw [List.getElem?_map, hy]; rfl) k hk))
theorem cells_few {H : Type} {enc : TypeId × Value → H} {W : World} {base : Nat} {held : Bool} {A : Option Addr} {len cap : Nat} {X : Nat → CellD} {d : DataW H} {p : List MemPlace} {ts : List TypeId} {ds : List (DataW H)} {j : Nat} (h : DataW.Trod enc Try.prog W base (fun _ => true) held 25 (.slice A len cap) d p) (hX : CellsAt W A len X)
    (hs : (DataW.weightsEach Try.prog ts ds).all (· ≤ reachBytes) = true) (ht : ts[j]? = some 25) (hd : ds[j]? = some d) : ∀ i, i < len → (X i).n ≤ 140737488355328 := fun i hi => by
  have h1 := cells_big h hX (N := reachBytes) (fun k hk => by
    have := List.all_eq_true.1 hs _ (DataW.weights_mem_each ht hd k hk)
    simpa using this) i hi
  have := reachBytes_lt
  omega
end Go.Proofs.Ytmedmeabjlmggaa
