/- What the document's Decode asks is what the program's asks; numbers read from the last byte on. -/
import Derived.Test.YtahcgihdgpdiiaaLa
import Derived.Test.YtahcgihdgpdiiaaKn
namespace Go.Proofs.Ytahcgihdgpdiiaa
open Go.RowKit
set_option linter.unusedSimpArgs false
set_option linter.unusedVariables false

/-- The number that bytes i to 3 are, read from the last one on. -/
def horn (f : Nat → Nat) : Nat → Nat
  | 0 => 0
  | k + 1 => horn f k * 256 + f (3 - k)
theorem horn_num (f : Nat → Nat) : horn f 4 = num 256 f 4 := by simp [horn, num]; omega
theorem horn_lt {f : Nat → Nat} (hf : ∀ j, j < 4 → f j < 256) : ∀ k, k ≤ 4 → horn f k < 256 ^ k
  | 0, _ => by simp [horn]
  | k + 1, h => by
    have h1 := horn_lt hf k (by omega)
    have h2 := hf (3 - k) (by omega)
    rw [horn, Nat.pow_succ]
    omega
theorem openB_same {f g : Nat → Nat} {n : Nat} (h : ∀ j, j < n → f j = g j) : OpenB f n = OpenB g n := by
  unfold OpenB
  by_cases h4 : 4 ≤ n
  · rw [num_congr 4 (fun j hj => h j (by omega)), crcN_congr (f := fun j => f (4 + j)) (g := fun j => g (4 + j)) (fun j hj => h _ (by omega))]
  · simp [h4]
theorem decP_same {f g : Nat → Nat} (h : ∀ j, j < 64 → f j = g j) (hd : decP 64 f) : decP 64 g := by
  obtain ⟨h1, h2, h3, h4, h5⟩ := hd
  rw [h 12 (by omega), h 13 (by omega), h 14 (by omega)] at h4
  rw [h 14 (by omega)] at h3 h5
  exact ⟨rfl, by rw [← openB_same h]; exact h2, h3, h4, fun j h6 h7 => by rw [← h j h7]; exact h5 j h6 h7⟩
/-- Bytes are a cell's sector just if they are what would be written. -/
theorem decP_iff {f : Nat → Nat} (hf : ∀ j, j < 64 → f j < 256) (hm : mayP (f 12 : Nat) (f 13 : Nat) (f 14)) :
    decP 64 f ↔ ∀ j, j < 64 → sectF (num 256 (fun j => f (4 + j)) 4) (num 256 (fun j => f (8 + j)) 4) (f 12) (f 13) (f 14) (fun j => f (15 + j)) j = f j := by
  have hg : num 256 (fun j => f (4 + j)) 4 < 4294967296 := num4_lt (fun j hj => hf _ (by omega)) (Nat.le_refl _)
  have hs : num 256 (fun j => f (8 + j)) 4 < 4294967296 := num4_lt (fun j hj => hf _ (by omega)) (Nat.le_refl _)
  have hm2 := hm
  unfold mayP at hm2
  have hk : f 14 ≤ 49 := by omega
  have dg := (four_num (f := fun j => f (4 + j)) (fun j hj => hf _ (by omega)) hg).1 rfl
  have ds := (four_num (f := fun j => f (8 + j)) (fun j hj => hf _ (by omega)) hs).1 rfl
  constructor
  · rintro ⟨_, h2, h3, _, h5⟩
    have body : ∀ j, j < 60 → bodyF (num 256 (fun j => f (4 + j)) 4) (num 256 (fun j => f (8 + j)) 4) (f 12) (f 13) (f 14) (fun j => f (15 + j)) j = f (4 + j) := fun j hj => by
      unfold bodyF
      by_cases c1 : j < 4
      · rw [if_pos c1]; exact (dg j c1).symm
      rw [if_neg c1]
      by_cases c2 : j < 8
      · rw [if_pos c2, ← ds (j - 4) (by omega)]
        exact congrArg f (by omega)
      rw [if_neg c2]
      by_cases c3 : j = 8
      · rw [if_pos c3, c3]
      rw [if_neg c3]
      by_cases c4 : j = 9
      · rw [if_pos c4, c4]
      rw [if_neg c4]
      by_cases c5 : j = 10
      · rw [if_pos c5, c5]
      rw [if_neg c5]
      by_cases c6 : j < 11 + f 14
      · rw [if_pos c6]
        exact congrArg f (by omega)
      · rw [if_neg c6]
        exact (h5 (4 + j) (by omega) (by omega)).symm
    intro j hj
    unfold sectF
    by_cases c : j < 4
    · unfold sealF
      rw [if_pos c, crcN_congr body]
      rw [openB_is (by omega), decide_eq_true_eq] at h2
      have hcl : crcN (fun j => f (4 + j)) 60 < 4294967296 := crcN_lt fun j hj => hf _ (by omega)
      exact ((four_num (f := f) (fun j hj => hf _ (by omega)) hcl).1 h2 j c).symm
    · obtain ⟨i, rfl⟩ : ∃ i, j = 4 + i := ⟨j - 4, by omega⟩
      rw [seal_behind]
      exact body i (by omega)
  · intro h
    exact decP_same h (sect_dec hg hs hm (fun j hj => hf _ (by omega))).1
end Go.Proofs.Ytahcgihdgpdiiaa
