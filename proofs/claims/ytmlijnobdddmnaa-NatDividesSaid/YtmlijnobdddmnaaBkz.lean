/- Contracts: Sub and Div behind a sum and a product; reading lengths off numbers. -/
import Derived.Test.YtmlijnobdddmnaaNatD
import Derived.Test.YtmlijnobdddmnaaNatE
import Derived.Test.YtmlijnobdddmnaaLv
namespace Go.Proofs.Ytmlijnobdddmnaa
open Go.RowKit

theorem isNat_len {w : World} {v : Value} {N : Nat} (h : IsNat w v N) : ∃ A n c, v = .slice A n c ∧ (n = 0 ↔ N = 0) ∧ IsNat w (.slice A n c) N := by
  obtain ⟨A, n, c, f, rfl, a1, a2, a3, a4, a5⟩ := h
  refine ⟨A, n, c, rfl, ⟨fun h => ?_, fun h => ?_⟩, A, n, c, f, rfl, a1, a2, a3, a4, a5⟩
  · subst h; rw [← a5]; rfl
  · rcases Nat.eq_zero_or_pos n with h0 | h0
    · exact h0
    · have := a4.pos (B := 4294967296) (by omega) h0; omega
theorem isNat_pos {w : World} {v : Value} {N : Nat} (h : IsNat w v N) (h0 : 0 < N) : ∃ A n c, v = .slice A (n + 1) c ∧ IsNat w (.slice A (n + 1) c) N := by
  obtain ⟨A, n, c, rfl, h1, h2⟩ := isNat_len h
  obtain ⟨k, rfl⟩ : ∃ k, n = k + 1 := ⟨n - 1, by omega⟩
  exact ⟨A, k, c, rfl, h2⟩
theorem isNat_none {w : World} {v : Value} {N : Nat} (h : IsNat w v N) (h0 : N = 0) : ∃ A c, v = .slice A 0 c := by
  obtain ⟨A, n, c, rfl, h1, h2⟩ := isNat_len h
  obtain rfl := h1.2 h0
  exact ⟨A, c, rfl⟩

section
variable {k m N M : Nat} {w : World} {v1 v2 : Value}
theorem back_sub (h1 : Lim k w v1 (N + M)) (h2 : Lim m w v2 M) (hk : k ≤ 1000000) (hm : m ≤ 1000000) :
    Calls Try.prog 15 #[v1, v2] w fun e w' => ∃ v, e = .returned (.tuple #[v, .bool true]) ∧ IsNat w' v N ∧ Below w.heap.size w w' :=
  (lim_sub h1 h2 hk hm).mono fun e w' h => by
    have := h.yes (Nat.le_add_left _ _)
    unfold SubYes at this
    rwa [Nat.add_sub_cancel] at this
theorem back_div (h1 : Lim k w v1 (N * M)) (h2 : Lim m w v2 M) (hk : k ≤ 1000000) (hm : m ≤ 1000000) (hM : 0 < M) :
    Calls Try.prog 6 #[v1, v2] w fun e w' => ∃ v A c, e = .returned (.tuple #[v, .slice A 0 c, .bool true]) ∧ IsNat w' v N ∧ Below w.heap.size w w' :=
  (lim_div h1 h2 hk hm).mono fun e w' h => by
    obtain ⟨vq, vr, rfl, h1, h2, h3⟩ := h.yes hM
    rw [Nat.mul_div_cancel _ hM] at h1
    obtain ⟨A, c, rfl⟩ := isNat_none h2 (Nat.mul_mod_left _ _)
    exact ⟨_, A, c, rfl, h1, h3⟩
theorem back_none (h1 : Lim k w v1 N) (h2 : Lim m w v2 0) (hk : k ≤ 1000000) (hm : m ≤ 1000000) :
    Calls Try.prog 6 #[v1, v2] w fun e w' => ∃ vq vr, e = .returned (.tuple #[vq, vr, .bool false]) ∧ Below w.heap.size w w' :=
  (lim_div h1 h2 hk hm).mono fun e w' h => by
    obtain ⟨vq, vr, rfl, h1, h2, h3⟩ := h.no
    exact ⟨_, _, rfl, h3⟩
theorem rtr_pos (h : Lim k w v1 N) (hk : k ≤ 1000000) (h0 : 0 < N) :
    Calls Try.prog 13 #[v1] w fun e w' => ∃ A n c, e = .returned (.slice A (n + 1) c) ∧ IsNat w' (.slice A (n + 1) c) N ∧ Below w.heap.size w w' :=
  (lim_rtr h hk).mono fun e w' ⟨v, h1, h2, h3⟩ => by
    obtain ⟨A, n, c, rfl, h4⟩ := isNat_pos h2 h0
    exact ⟨A, n, c, h1, h4, h3⟩
theorem rtr_none (h : Lim k w v1 0) (hk : k ≤ 1000000) :
    Calls Try.prog 13 #[v1] w fun e w' => ∃ A c, e = .returned (.slice A 0 c) ∧ Below w.heap.size w w' :=
  (lim_rtr h hk).mono fun e w' ⟨v, h1, h2, h3⟩ => by
    obtain ⟨A, c, rfl⟩ := isNat_none h2 rfl
    exact ⟨A, c, h1, h3⟩
end
end Go.Proofs.Ytmlijnobdddmnaa
