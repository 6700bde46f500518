/- What a fraction that came in reads as. -/
import Derived.Test.YtglcififcldchaaGreatDoorPRb
import Derived.WalkKit
import Derived.ProofKit
import Derived.OpenShut
import Derived.Lib.SmallJoins
import Derived.Test.YtglcififcldchaaGreatDoorPWa
namespace Go.Proofs.YtglcififcldchaaGreatDoor
open Go.ChangeShapes Go.WideShapes Go.ChangeAt Go.RowKit Go.ChangeShapes

theorem cellsR_ : Tryz.prog.cellsOf 26 = 4 := by kernel_rfl
theorem cellsRI_ : Tryz.prog.cellsOf 24 = 2 := by kernel_rfl
theorem cellsRB_ : Tryz.prog.cellsOf 4 = 1 := by kernel_rfl
theorem cellsRN_ : Tryz.prog.cellsOf 22 = 1 := by kernel_rfl
set_option maxRecDepth 100000 in
theorem part_open {H : Type} {enc : TypeId × Value → H} {W : World} {base n : Nat} {held : Bool} {c0 c1 : Value} {y : DataW H × List MemPlace} (h : DataW.trod enc Tryz.prog W base (fun _ => true) held n 24 [c0, c1] = some y) :
    ∃ (b : Bool) (s : Option Addr) (l c : Nat) (X : Int), c0 = .bool b ∧ c1 = .slice s l c ∧ LimI l W (.agg #[.bool b, .slice s l c]) X := by
  obtain ⟨y0, y1, m, _, _, h0, h1⟩ := trod_struct2 Tryz.underlying24 h
  simp only [cellsRB_, cellsRN_, List.drop_zero, List.drop_succ_cons, List.take_succ_cons, List.take_zero] at h0 h1
  obtain ⟨b, e0, _⟩ := DataW.trod_bool Tryz.underlying4 h0
  simp at e0
  subst e0
  have hrow : ∃ (s : Option Addr) (l' c' : Nat) (zs : List Int), c1 = .slice s l' c' ∧ ((s = none ∧ l' = 0 ∧ c' = 0 ∧ zs = []) ∨ ∃ x, s = some x ∧ l' ≤ c' ∧ c' ≤ maxLen ∧ zs.length = c' ∧ (∀ i, i < zs.length → W.cell? (x.add i) = some (.int .u32 (zs.getD i 0))) ∧ ∀ n ∈ zs, (Lit.int .u32 n).wf = true) := by
    rcases open_ints Tryz.underlying22 Tryz.underlying86 (by kernel_rfl) h1 with ⟨hcs, _⟩ | ⟨x, l', c', zs, hcs, _, hl', hm', hz', _, hcell, hwz⟩
    · simp at hcs
      exact ⟨none, 0, 0, [], hcs, .inl ⟨rfl, rfl, rfl, rfl⟩⟩
    · simp at hcs
      exact ⟨some x, l', c', zs, hcs, .inr ⟨x, rfl, hl', hm', by simpa using hz', hcell, hwz⟩⟩
  obtain ⟨s, l', c', zs, rfl, hr⟩ := hrow
  obtain ⟨N, hN⟩ := lim_of l' (Nat.le_refl _) hr
  exact ⟨b, s, l', c', sg b N, rfl, rfl, limI_mk hN⟩
set_option maxRecDepth 100000 in
theorem rat_open {H : Type} {enc : TypeId × Value → H} {W : World} {base b0 : Nat} {held : Bool} {r : Reach} {v : Value} {d : DataW H} {p : List MemPlace} (hv : Value.okWide Tryz.prog W r b0 26 v) (h : DataW.Trod enc Tryz.prog W base (fun _ => true) held 26 v d p) :
    ∃ (b : Bool) (A : Option Addr) (n c : Nat) (b' : Bool) (A' : Option Addr) (n' c' : Nat), v = .agg #[.bool b, .slice A n c, .bool b', .slice A' n' c'] ∧
      (n ≤ 4 → n' ≤ 4 → ∃ q, LimQ 4 W (.agg #[.bool b, .slice A n c, .bool b', .slice A' n' c']) q) := by
  obtain ⟨cs, rfl, hsz⟩ := okWide_struct Tryz.underlying26 hv
  obtain ⟨c0, c1, c2, c3, rfl⟩ := Go.Joins.array4 (hsz.trans cellsR_)
  obtain ⟨fuel, hf⟩ := h
  obtain ⟨y0, y1, m, _, _, h0, h1⟩ := trod_struct2 Tryz.underlying26 hf
  simp only [cellsRI_, Value.cells, List.drop_zero, List.drop_succ_cons, List.take_succ_cons, List.take_zero] at h0 h1
  obtain ⟨b, A, n, c, X, rfl, rfl, hX⟩ := part_open h0
  obtain ⟨b', A', n', c', Y, rfl, rfl, hY⟩ := part_open h1
  exact ⟨b, A, n, c, b', A', n', c', rfl, fun g g' => ⟨_, X, Y, limR_mk (hX.more g) (hY.more g'), rfl⟩⟩
end Go.Proofs.YtglcififcldchaaGreatDoor

/- What a slice of bytes that came in reads as. -/
namespace Go.Proofs.YtglcififcldchaaGreatDoor
open Go.RowKit

theorem byt_of {w : World} {a : Option Addr} {len cap : Nat} {zs : List Int}
    (h : (a = none ∧ len = 0 ∧ cap = 0 ∧ zs = []) ∨ ∃ x, a = some x ∧ len ≤ cap ∧ cap ≤ maxLen ∧ zs.length = cap ∧ (∀ i, i < zs.length → w.cell? (x.add i) = some (.int .u8 (zs.getD i 0))) ∧ ∀ n ∈ zs, (Lit.int .u8 n).wf = true) :
    len ≤ 9223372036854775807 ∧ ∃ f, Byt w (.slice a len cap) len f := by
  rcases h with ⟨rfl, rfl, rfl, rfl⟩ | ⟨x, rfl, hl, hm, hz, hcell, hwf⟩
  · exact ⟨by omega, fun _ => 0, none, 0, rfl, Nat.le_refl _, Rd.zero, fun j hj => absurd hj (by omega)⟩
  · have hb : ∀ j, j < len → 0 ≤ zs.getD j 0 ∧ zs.getD j 0 < 256 := fun j hj => by
      have hjl : j < zs.length := by omega
      have hmem : zs.getD j 0 ∈ zs := by
        rw [List.getD, List.getElem?_eq_getElem hjl]; exact List.getElem_mem hjl
      have := hwf _ hmem
      generalize zs.getD j 0 = q at this ⊢
      simp [Lit.wf, IntKind.min, IntKind.max, IntKind.bits, IntKind.signed] at this
      omega
    refine ⟨by simp only [maxLen] at hm; omega, fun j => (zs.getD j 0).toNat, some x, cap, rfl, hl, fun j hj => ⟨x, rfl, ?_⟩, fun j hj => by
      have := hb j hj
      show (zs.getD j 0).toNat < 256
      generalize zs.getD j 0 = q at this ⊢
      omega⟩
    rw [hcell j (by omega), Int.toNat_of_nonneg (hb j hj).1]
end Go.Proofs.YtglcififcldchaaGreatDoor
