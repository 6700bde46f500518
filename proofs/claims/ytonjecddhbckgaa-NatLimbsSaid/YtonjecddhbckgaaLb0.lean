/- Lengths of numbers; Bytes by its length; appending below; the parts of a number. -/
import Derived.Test.YtonjecddhbckgaaBk0
import Derived.Test.YtonjecddhbckgaaBb
namespace Go.Proofs.Ytonjecddhbckgaa
open Go.RowKit

/-- N has p limbs. -/
def HasLen (N p : Nat) : Prop := ∃ f, Trimmed f p ∧ (∀ j, j < p → f j < 4294967296) ∧ num 4294967296 f p = N
theorem HasLen.uniq {N p q : Nat} (h : HasLen N p) (h' : HasLen N q) : p = q := by
  obtain ⟨f, a1, a2, a3⟩ := h
  obtain ⟨g, b1, b2, b3⟩ := h'
  exact (a1.uniq b1 (by omega) a2 b2 (by rw [a3, b3])).1
theorem IsNat.len {w : World} {A : Option Addr} {n c N : Nat} (h : IsNat w (.slice A n c) N) : HasLen N n := by
  obtain ⟨A', n', c', f, e, a1, a2, a3, a4, a5⟩ := h
  injection e with e1 e2 e3
  subst e1 e2 e3
  exact ⟨f, a4, a3, a5⟩

theorem len_zero : HasLen 0 0 := ⟨fun _ => 0, .inl rfl, fun j hj => absurd hj (by omega), rfl⟩

theorem lim_bytes {k N : Nat} {w : World} {v : Value} (h : Lim k w v N) (hk : k ≤ 4096) {p : Nat} (hp : HasLen N p) :
    Calls Try.prog 31 #[v] w fun e w' => ∃ X, e = .returned (.slice X (2 + 4 * p) (2 + 4 * p)) ∧ Below w.heap.size w w' := by
  obtain ⟨A, n, c, f, rfl, a1, a2, a3, a4, rfl⟩ := h
  have hl := tlen_le (f := f) n
  refine (bytes_any A n c f w a2 a1 (by omega) a3 (by omega)).mono ?_
  rintro e w' ⟨F, rfl, h1, h2, h3⟩
  have hq : HasLen (num 4294967296 f n) (tlen f n) := ⟨f, tlen_trimmed n, tlen_lt_dig a3, num_tlen n⟩
  rw [hq.uniq hp]
  exact ⟨_, rfl, h2⟩

theorem own_zero (w : World) : Own .u32 41 (w.alloc (.cells #[.int .u32 0] 41)) w.heap.size (.slice (some ⟨w.heap.size, 0, none⟩) 1 1) 1 (fun _ => 0) :=
  World.ownsRow_lit w _ 1 (Nat.le_refl _) (by simp only [maxLen]; omega) rfl

theorem num_app {n : Nat} {f : Nat → Nat} : num 4294967296 (appF (fun _ => 0) 1 f) (1 + n) = num 4294967296 f n * 4294967296 := by
  rw [num_add, show num 4294967296 (appF (fun _ => 0) 1 f) 1 = 0 from by simp [num, appF], Nat.pow_one, Nat.zero_add, Nat.mul_comm]
  congr 1
  exact num_congr n fun j _ => by show appF _ 1 f (1 + j) = f j; unfold appF; rw [if_neg (by omega), Nat.add_sub_cancel_left]
theorem own_app {w : World} {base k : Nat} {v : Value} {f : Nat → Nat} {N : Nat} (h : Own .u32 41 w base v (1 + (k + 1)) (appF (fun _ => 0) 1 f)) (hf : ∀ j, j < k + 1 → f j < 4294967296) (ht : f k ≠ 0) (hN : num 4294967296 f (k + 1) = N) :
    IsNat w v (N * 4294967296) := by
  rcases h.form with ⟨_, h0⟩ | ⟨g, c, rfl, _, hc⟩
  · omega
  · refine ⟨_, _, _, _, rfl, hc, h.rd_, fun j hj => ?_, .inr ?_, by rw [num_app, hN]⟩
    · unfold appF
      split
      · show (0 : Nat) < 4294967296; omega
      · exact hf _ (by omega)
    · rw [show 1 + (k + 1) - 1 = k + 1 from by omega]
      unfold appF
      rw [if_neg (by omega), Nat.add_sub_cancel]
      exact ht

section
variable {w : World} {ad : Addr} {k c N : Nat}
theorem isNat_parts (h : IsNat w (.slice (some ad) (k + 1) c) N) : ∃ f, k + 1 ≤ c ∧ Rd .u32 w (some ad) (k + 1) f ∧ (∀ j, j < k + 1 → f j < 4294967296) ∧ f k ≠ 0 ∧ num 4294967296 f (k + 1) = N := by
  obtain ⟨A', n', c', f, e, a1, a2, a3, a4, a5⟩ := h
  injection e with e1 e2 e3
  subst e1 e2 e3
  refine ⟨f, a1, a2, a3, ?_, a5⟩
  rcases a4 with h | h
  · omega
  · exact h
theorem num_split {f : Nat → Nat} (hf : ∀ j, j < k + 1 → f j < 4294967296) : num 4294967296 f (k + 1) / 4294967296 = num 4294967296 (fun j => f (1 + j)) k ∧ num 4294967296 f (k + 1) % 4294967296 = f 0 := by
  rw [num_first (by omega), Nat.add_sub_cancel]
  have e : (fun j => f (j + 1)) = fun j => f (1 + j) := funext fun j => by rw [Nat.add_comm]
  rw [e]
  have := hf 0 (by omega)
  omega
theorem isNat_rest (h : IsNat w (.slice (some ad) (k + 1) c) N) : IsNat w (.slice (some (ad.add 1)) k (c - 1)) (N / 4294967296) := by
  obtain ⟨f, a1, a2, a3, a4, rfl⟩ := isNat_parts h
  refine ⟨_, _, _, fun j => f (1 + j), rfl, by omega, a2.drop (k := 1) (by omega), fun j hj => a3 _ (by omega), ?_, (num_split a3).1.symm⟩
  rcases Nat.eq_zero_or_pos k with h0 | h0
  · exact .inl h0
  · right; show f (1 + (k - 1)) ≠ 0; rw [show 1 + (k - 1) = k from by omega]; exact a4
theorem isNat_rest_one (h : IsNat w (.slice (some ad) (k + 1) 1) N) (X : Option Addr) (d : Nat) : k = 0 ∧ IsNat w (.slice X 0 d) (N / 4294967296) := by
  obtain ⟨f, a1, a2, a3, a4, rfl⟩ := isNat_parts h
  obtain rfl : k = 0 := by omega
  refine ⟨rfl, _, _, _, fun _ => 0, rfl, Nat.zero_le _, Rd.zero, fun j hj => absurd hj (by omega), .inl rfl, ?_⟩
  rw [(num_split a3).1]
  rfl
theorem isNat_head (h : IsNat w (.slice (some ad) (k + 1) c) N) : Lim 1 w (.slice (some ad) 1 c) (N % 4294967296) := by
  obtain ⟨f, a1, a2, a3, a4, rfl⟩ := isNat_parts h
  refine ⟨_, _, _, f, rfl, by omega, a2.less (by omega), fun j hj => a3 j (by omega), Nat.le_refl _, ?_⟩
  rw [(num_split a3).2]
  simp [num]
theorem isNat_some {v : Value} (h : IsNat w v N) (h0 : 0 < N) : ∃ ad n c, v = .slice (some ad) (n + 1) c ∧ IsNat w (.slice (some ad) (n + 1) c) N := by
  obtain ⟨A, n, c, rfl, h2⟩ := isNat_pos h h0
  obtain ⟨A', n', c', f, e, a1, a2, a3⟩ := id h2
  injection e with e1 e2 e3
  subst e1 e2 e3
  obtain ⟨ad, rfl, _⟩ := a2.some_ (by omega)
  exact ⟨ad, n, c, rfl, h2⟩
end

theorem isNat_short {m n c N : Nat} {A : Option Addr} {w : World} (h : IsNat w (.slice A n c) N) (hN : N < 4294967296 ^ m) : n ≤ m := by
  obtain ⟨f, a1, a2, a3⟩ := h.len
  exact a1.len (B := 4294967296) (by omega) (by rw [a3]; exact hN)

theorem rtr_some {k N : Nat} {w : World} {v1 : Value} (h : Lim k w v1 N) (hk : k ≤ 1000000) (h0 : 0 < N) :
    Calls Try.prog 17 #[v1] w fun e w' => ∃ ad n c, e = .returned (.slice (some ad) (n + 1) c) ∧ IsNat w' (.slice (some ad) (n + 1) c) N ∧ Below w.heap.size w w' :=
  (lim_rtr h hk).mono fun e w' ⟨v, h1, h2, h3⟩ => by
    obtain ⟨A, n, c, rfl, h4⟩ := isNat_some h2 h0
    exact ⟨A, n, c, h1, h4, h3⟩
end Go.Proofs.Ytonjecddhbckgaa
