/- The walk of CellCodes. -/
import Derived.Test.YtahcgihdgpdiiaaLc
import Derived.Test.YtahcgihdgpdiiaaKy
import Derived.Test.YtahcgihdgpdiiaaKq
namespace Go.Proofs.Ytahcgihdgpdiiaa
open Go.RowKit
set_option linter.unusedSimpArgs false
set_option linter.unusedVariables false

open Classical in
/-- What decoding tells, in one form. -/
noncomputable def decD (n : Nat) (f : Nat → Nat) : CellD := if decP n f then ⟨num 256 (fun j => f (4 + j)) 4, num 256 (fun j => f (8 + j)) 4, (f 12 : Nat), (f 13 : Nat), none, f 14, 0, fun j => f (15 + j)⟩ else ⟨0, 0, 0, 0, none, 0, 0, fun j => f (15 + j)⟩
open Classical in
noncomputable def decC (n : Nat) (f : Nat → Nat) : Nat := if decP n f then 0 else 2
def HasC (w : World) (D : CellD) : Prop := Rd .u8 w D.A D.n D.f ∧ D.good ∧ D.n ≤ 1000
theorem HasC.below {w w' : World} {D : CellD} (h : HasC w D) (hb : Below w.heap.size w w') : HasC w' D := ⟨h.1.below hb, h.2⟩
def DecOne (w w' : World) (e : Ending) (n : Nat) (f : Nat → Nat) : Prop := (∃ D : CellD, e = .returned (.tuple #[D.val, .int .i64 (decC n f : Nat)]) ∧ HasC w' D ∧ sameC D (decD n f)) ∧ Below w.heap.size w w'
theorem DecPost.one {w w' : World} {e : Ending} {n : Nat} {f : Nat → Nat} (h : DecPost w w' e n f) (hf : ∀ j, j < n → f j < 256) : DecOne w w' e n f := by
  obtain ⟨h, hb⟩ := h
  refine ⟨?_, hb⟩
  rcases h with ⟨hd, B, c, rfl, hv, hB⟩ | ⟨hd, rfl⟩
  · obtain ⟨A', c', h1, h2, h3, h4⟩ := hv
    cases h1
    have hn := hd.1
    subst hn
    have hg : num 256 (fun j => f (4 + j)) 4 < 4294967296 := num4_lt (fun j hj => hf _ (by omega)) (Nat.le_refl _)
    have hs : num 256 (fun j => f (8 + j)) 4 < 4294967296 := num4_lt (fun j hj => hf _ (by omega)) (Nat.le_refl _)
    have h12 := hf 12 (by omega)
    have h13 := hf 13 (by omega)
    have h14 := hf 14 (by omega)
    refine ⟨⟨num 256 (fun j => f (4 + j)) 4, num 256 (fun j => f (8 + j)) 4, (f 12 : Nat), (f 13 : Nat), B, f 14, c, fun j => f (15 + j)⟩, by rw [decC, if_pos hd]; rfl, ⟨h3, ⟨hg, hs, by show _ ≤ ((f 12 : Nat) : Int); omega, by show ((f 12 : Nat) : Int) ≤ _; omega, by show _ ≤ ((f 13 : Nat) : Int); omega, by show ((f 13 : Nat) : Int) ≤ _; omega, h2, by show f 14 ≤ _; omega, h4, fun h => absurd h hB⟩, by show f 14 ≤ _; omega⟩, ?_⟩
    rw [decD, if_pos hd]
    exact ⟨rfl, rfl, rfl, rfl, rfl, fun j _ => rfl⟩
  · refine ⟨⟨0, 0, 0, 0, none, 0, 0, fun j => f (15 + j)⟩, by rw [decC, if_neg hd]; rfl, ⟨Rd.zero, ⟨by show (0 : Nat) < _; omega, by show (0 : Nat) < _; omega, by show _ ≤ (0 : Int); omega, by show (0 : Int) ≤ _; omega, by show _ ≤ (0 : Int); omega, by show (0 : Int) ≤ _; omega, Nat.le_refl _, by show (0 : Nat) ≤ _; omega, fun j hj => absurd hj (by show ¬ j < 0; omega), fun _ => ⟨rfl, rfl⟩⟩, by show (0 : Nat) ≤ _; omega⟩, ?_⟩
    rw [decD, if_neg hd]
    exact ⟨rfl, rfl, rfl, rfl, rfl, fun j _ => rfl⟩
theorem sameC.trans2 {x y z : CellD} (h : sameC x z) (k : sameC y z) : sameC x y := by
  obtain ⟨h1, h2, h3, h4, h5, h6⟩ := h
  obtain ⟨k1, k2, k3, k4, k5, k6⟩ := k
  exact ⟨h1.trans k1.symm, h2.trans k2.symm, h3.trans k3.symm, h4.trans k4.symm, h5.trans k5.symm, fun j hj => (h6 j hj).trans (k6 j (by rw [k5, ← h5]; exact hj)).symm⟩
/-- What encoding tells, in one form. -/
def encN (x : CellD) : Nat := if mayP x.p x.q x.n then 64 else 0
def encC (x : CellD) : Nat := if mayP x.p x.q x.n then 0 else 1
def encF (x : CellD) : Nat → Nat := sectF x.g x.s x.p.toNat x.q.toNat x.n x.f
def EncOne (w w' : World) (e : Ending) (x : CellD) : Prop := (∃ v, e = .returned (.tuple #[v, .int .i64 (encC x : Nat)]) ∧ Byt w' v (encN x) (encF x)) ∧ Below w.heap.size w w'
theorem encode_one {w : World} {x : CellD} (h : HasC w x) : Calls Try.prog 11 #[x.val] w fun e w' => EncOne w w' e x := by
  obtain ⟨hr, hg, hn⟩ := h
  obtain ⟨g1, g2, _, _, _, _, _, g8, g9, _⟩ := hg
  by_cases hm : mayP x.p x.q x.n
  · have hm2 := hm
    unfold mayP at hm2
    have h1 := encode_i (c := x.c) (g := (x.g : Nat)) (s := (x.s : Nat)) ⟨by omega, by omega⟩ ⟨by omega, by omega⟩ hr g9 hm
    refine h1.mono ?_
    rintro e w' ⟨⟨v, he, hv⟩, hb⟩
    refine ⟨⟨v, by rw [encC, if_pos hm]; exact he, ?_⟩, hb⟩
    rw [encN, if_pos hm]
    exact hv
  · refine (encode_no x.g x.s x.p x.q x.A x.n x.c w g8 hm).mono ?_
    rintro e w' ⟨he, hb⟩
    refine ⟨⟨_, by rw [encC, if_neg hm]; exact he, ?_⟩, hb⟩
    rw [encN, if_neg hm]
    exact byt_none
theorem rencode_one {w : World} {x : CellD} (h : HasC w x) : Calls Try.prog 12 #[x.val] w fun e w' => EncOne w w' e x := by
  obtain ⟨g, s, p, q, A, n, c, f⟩ := x
  obtain ⟨hr, hg, hn⟩ := h
  obtain ⟨g1, g2, _, _, _, _, _, g8, g9, _⟩ := hg
  by_cases hm : mayP p q n
  · have hm2 := hm
    unfold mayP at hm2
    obtain ⟨p, rfl⟩ : ∃ k : Nat, p = k := ⟨p.toNat, by omega⟩
    obtain ⟨q, rfl⟩ : ∃ k : Nat, q = k := ⟨q.toNat, by omega⟩
    refine (rencode_yes g s p q A n c f w g1 g2 hr g9 hm).mono ?_
    rintro e w' ⟨⟨v, he, hv⟩, hb⟩
    refine ⟨⟨v, by rw [encC, if_pos hm]; exact he, ?_⟩, hb⟩
    rw [encN, if_pos hm]
    exact hv
  · refine (rencode_no g s p q A n c w g8 hm).mono ?_
    rintro e w' ⟨he, hb⟩
    refine ⟨⟨_, by rw [encC, if_neg hm]; exact he, ?_⟩, hb⟩
    rw [encN, if_neg hm]
    exact byt_none
theorem one_cell {w : World} {b : Nat} {D : CellD} (hD : HasC w D) (h : BoxC w b D.g D.s D.p D.q D.A D.n D.c) : CellsAt w (some ⟨b, 0, none⟩) 1 (fun _ => D) := fun i hi => by
  obtain rfl : i = 0 := by omega
  exact ⟨⟨b, 0, none⟩, rfl, h.lt, h.1, h.2.1, h.2.2.1, h.2.2.2.1, h.2.2.2.2, hD.1, hD.2.1⟩
/-- Two lists of one cell are alike. -/
theorem alike_one {w : World} {a b : Nat} {D E : CellD} (hD : HasC w D) (hE : HasC w E) (h : BoxC w a D.g D.s D.p D.q D.A D.n D.c) (k : BoxC w b E.g E.s E.p E.q E.A E.n E.c) (hs : sameC D E) :
    Calls Try.prog 16 #[.slice (some ⟨a, 0, none⟩) 1 1, .slice (some ⟨b, 0, none⟩) 1 1] w fun e w' => e = .returned (.bool true) ∧ Below w.heap.size w w' := by
  refine (alike_any (some ⟨a, 0, none⟩) 1 1 (fun _ => D) (some ⟨b, 0, none⟩) 1 (fun _ => E) w (one_cell hD h) (one_cell hE k) (by omega) (fun _ _ => by have := hD.2.2; show D.n ≤ _; omega) (fun _ _ => by have := hE.2.2; show E.n ≤ _; omega)).mono ?_
  rintro e w' ⟨⟨t, rfl, ht⟩, hb⟩
  obtain rfl := ht.2 ⟨rfl, fun _ _ => hs⟩
  exact ⟨rfl, hb⟩
end Go.Proofs.Ytahcgihdgpdiiaa
