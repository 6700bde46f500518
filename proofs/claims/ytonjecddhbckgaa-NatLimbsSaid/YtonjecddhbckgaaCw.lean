/- The contracts of nat in the words of numbers. -/
import Derived.Test.YtonjecddhbckgaaCd
import Derived.Test.YtonjecddhbckgaaCg
import Derived.Test.YtonjecddhbckgaaCm
import Derived.Test.YtonjecddhbckgaaCp
namespace Go.Proofs.Ytonjecddhbckgaa
open Go.RowKit

/-- A row of at most k limbs, trimmed or not. -/
def Lim (k : Nat) (w : World) (v : Value) (N : Nat) : Prop :=
  ∃ A n c f, v = .slice A n c ∧ n ≤ c ∧ Rd .u32 w A n f ∧ (∀ j, j < n → f j < 4294967296) ∧ n ≤ k ∧ num 4294967296 f n = N

theorem Lim.below {k : Nat} {w w' : World} {v : Value} {N : Nat} (h : Lim k w v N) (hb : Below w.heap.size w w') : Lim k w' v N := by
  obtain ⟨A, n, c, f, h1, h2, h3, h4⟩ := h
  exact ⟨A, n, c, f, h1, h2, h3.below hb, h4⟩
theorem Lim.lt {k : Nat} {w : World} {v : Value} {N : Nat} (h : Lim k w v N) : N < 4294967296 ^ k := by
  obtain ⟨A, n, c, f, h1, h2, h3, h4, h5, h6⟩ := h
  rw [← h6]
  exact Nat.lt_of_lt_of_le (num_lt (by omega) n h4) (Nat.pow_le_pow_right (by omega) h5)
theorem Lim.more {k k' : Nat} {w : World} {v : Value} {N : Nat} (h : Lim k w v N) (hk : k ≤ k') : Lim k' w v N := by
  obtain ⟨A, n, c, f, h1, h2, h3, h4, h5, h6⟩ := h
  exact ⟨A, n, c, f, h1, h2, h3, h4, by omega, h6⟩
theorem IsNat.lim {k : Nat} {w : World} {v : Value} {N : Nat} (h : IsNat w v N) (hN : N < 4294967296 ^ k) : Lim k w v N := by
  obtain ⟨A, n, c, f, h1, h2, h3, h4, h5, h6⟩ := h
  exact ⟨A, n, c, f, h1, h2, h3, h4, h5.len (B := 4294967296) (by omega) (by rw [h6]; exact hN), h6⟩
theorem lt_add {k m N M : Nat} (h : N < 4294967296 ^ k) (h' : M < 4294967296 ^ m) (q : Nat) (hk : k < q) (hm : m < q) : N + M < 4294967296 ^ q := by
  have h1 : (4294967296 : Nat) ^ k ≤ 4294967296 ^ (q - 1) := Nat.pow_le_pow_right (by omega) (by omega)
  have h2 : (4294967296 : Nat) ^ m ≤ 4294967296 ^ (q - 1) := Nat.pow_le_pow_right (by omega) (by omega)
  have h3 : (4294967296 : Nat) ^ q = 4294967296 ^ (q - 1) * 4294967296 := by rw [← Nat.pow_succ]; congr 1; omega
  omega
theorem lt_mul {k m N M : Nat} (h : N < 4294967296 ^ k) (h' : M < 4294967296 ^ m) (q : Nat) (hq : k + m ≤ q) : N * M < 4294967296 ^ q := by
  have h1 : N * M < 4294967296 ^ k * 4294967296 ^ m := Nat.mul_lt_mul'' h h'
  rw [← Nat.pow_add] at h1
  exact Nat.lt_of_lt_of_le h1 (Nat.pow_le_pow_right (by omega) hq)
theorem lt_le {k N q : Nat} (h : N < 4294967296 ^ k) (hq : k ≤ q) : N < 4294967296 ^ q := Nat.lt_of_lt_of_le h (Nat.pow_le_pow_right (by omega) hq)

section
variable {k m : Nat} {w : World} {v1 v2 : Value} {N M : Nat}
theorem lim_add (h1 : Lim k w v1 N) (h2 : Lim m w v2 M) (hk : k ≤ 1000000) (hm : m ≤ 1000000) : Calls Try.prog 20 #[v1, v2] w fun e w' => NatPost w w' e (N + M) := by
  obtain ⟨A, n, c, f, rfl, a1, a2, a3, a4, rfl⟩ := h1
  obtain ⟨B, m, d, h, rfl, b1, b2, b3, b4, rfl⟩ := h2
  exact add_any A n c f B m d h w a2 a1 (by omega) a3 b2 b1 (by omega) b3
theorem lim_mul (h1 : Lim k w v1 N) (h2 : Lim m w v2 M) (hk : k ≤ 1000000) (hm : m ≤ 1000000) : Calls Try.prog 22 #[v1, v2] w fun e w' => NatPost w w' e (N * M) := by
  obtain ⟨A, n, c, f, rfl, a1, a2, a3, a4, rfl⟩ := h1
  obtain ⟨B, m, d, h, rfl, b1, b2, b3, b4, rfl⟩ := h2
  exact mul_any A n c f B m d h w a2 a1 (by omega) a3 b2 b1 (by omega) b3
theorem lim_sub (h1 : Lim k w v1 N) (h2 : Lim m w v2 M) (hk : k ≤ 1000000) (hm : m ≤ 1000000) : Calls Try.prog 13 #[v1, v2] w fun e w' => SubPost w w' e N M := by
  obtain ⟨A, n, c, f, rfl, a1, a2, a3, a4, rfl⟩ := h1
  obtain ⟨B, m, d, h, rfl, b1, b2, b3, b4, rfl⟩ := h2
  exact sub_any A n c f B m d h w a2 a1 (by omega) a3 b2 b1 (by omega) b3
theorem lim_cmp (h1 : Lim k w v1 N) (h2 : Lim m w v2 M) (hk : k ≤ 1000000) (hm : m ≤ 1000000) : Calls Try.prog 18 #[v1, v2] w fun e w' => CmpPost w w' e N M := by
  obtain ⟨A, n, c, f, rfl, a1, a2, a3, a4, rfl⟩ := h1
  obtain ⟨B, m, d, h, rfl, b1, b2, b3, b4, rfl⟩ := h2
  exact cmp_any A n c f B m d h w a2 a1 (by omega) a3 b2 b1 (by omega) b3
theorem lim_text (h1 : Lim k w v1 N) (hk : k ≤ 1000000) : Calls Try.prog 28 #[v1] w fun e w' => e = .returned (.string (decS N)) ∧ Below w.heap.size w w' := by
  obtain ⟨A, n, c, f, rfl, a1, a2, a3, a4, rfl⟩ := h1
  exact text_any A n c f w a2 a1 (by omega) a3
theorem lim_trim (h1 : Lim k w v1 N) (hk : k ≤ 1000000) : Calls Try.prog 16 #[v1] w fun e w' => NatPost w w' e N := by
  obtain ⟨A, n, c, f, rfl, a1, a2, a3, a4, rfl⟩ := h1
  refine (trim_any A n c f w a2 a1 (by omega)).mono ?_
  rintro e w' ⟨rfl, f', h1, h2, h3, _⟩
  refine ⟨_, rfl, ⟨_, _, _, f', rfl, Nat.le_refl _, h1.rd0 (Nat.le_refl _), fun j hj => by rw [h2 j hj]; exact tlen_lt_dig a3 j hj, ?_, by rw [num_congr _ h2, num_tlen]⟩, h3⟩
  rcases tlen_trimmed (f := f) n with h | h
  · exact .inl h
  · by_cases h0 : tlen f n = 0
    · exact .inl h0
    · exact .inr (by rw [h2 _ (by omega)]; exact h)
theorem isNat_same (h1 : IsNat w v1 N) (h2 : IsNat w v2 N) (hN : N < 4294967296 ^ k) (hk : k ≤ 1000000) : Calls Try.prog 15 #[v1, v2] w fun e w' => e = .returned (.bool true) ∧ Below w.heap.size w w' := by
  obtain ⟨A, n, c, f, rfl, a1, a2, a3, a4, a5⟩ := h1
  obtain ⟨B, m, d, h, rfl, b1, b2, b3, b4, b5⟩ := h2
  obtain ⟨rfl, he⟩ := a4.uniq b4 (B := 4294967296) (by omega) a3 b3 (by rw [a5, b5])
  have hn : n ≤ k := a4.len (B := 4294967296) (by omega) (by rw [a5]; exact hN)
  exact same_true A n c f B d h w a2 b2 (by omega) he
theorem lim_div_zero (h1 : Lim k w v1 N) (h2 : Lim m w v2 0) (hk : k ≤ 1000000) (hm : m ≤ 1000000) : Calls Try.prog 24 #[v1, v2] w fun e w' => DivPost w w' e N 0 := by
  obtain ⟨A, n, c, f, rfl, a1, a2, a3, a4, rfl⟩ := h1
  obtain ⟨B, m, d, h, rfl, b1, b2, b3, b4, b5⟩ := h2
  have := div_zero A n c f B m d h w a2 a1 (by omega) b2 b1 (by omega) ((tlen_zero_iff (by omega)).2 b5)
  rwa [b5] at this
theorem lim_div_one (h1 : Lim k w v1 N) (h2 : Lim m w v2 M) (hk : k ≤ 1000000) (hm : m ≤ 1000000) (hM0 : 0 < M) (hM : M < 4294967296) (hN : 18446744073709551616 ≤ N) : Calls Try.prog 24 #[v1, v2] w fun e w' => DivPost w w' e N M := by
  obtain ⟨A, n, c, f, rfl, a1, a2, a3, a4, rfl⟩ := h1
  obtain ⟨B, m, d, h, rfl, b1, b2, b3, b4, rfl⟩ := h2
  refine div_one A n c f B m d h w a2 a1 (by omega) a3 b2 b1 (by omega) b3 ?_ ?_
  · have l1 : tlen h m ≤ 1 := (tlen_trimmed m).len (B := 4294967296) (k := 1) (by omega) (by rw [num_tlen, Nat.pow_one]; exact hM)
    have l2 : tlen h m ≠ 0 := fun e => by have := (tlen_zero_iff (B := 4294967296) (by omega)).1 e; omega
    omega
  · rcases Nat.lt_or_ge 2 (tlen f n) with h | h
    · exact h
    · have h3 := num_lt (B := 4294967296) (by omega) (tlen f n) (tlen_lt_dig a3)
      rw [num_tlen] at h3
      have h4 : (4294967296 : Nat) ^ tlen f n ≤ 4294967296 ^ 2 := Nat.pow_le_pow_right (by omega) h
      have h5 : (4294967296 : Nat) ^ 2 = 18446744073709551616 := by decide
      rw [h5] at h4
      exact absurd (Nat.lt_of_lt_of_le h3 h4) (Nat.not_lt.2 hN)

def DivYes (w w' : World) (e : Ending) (x y : Nat) : Prop := ∃ vq vr, e = .returned (.tuple #[vq, vr, .bool true]) ∧ IsNat w' vq (x / y) ∧ IsNat w' vr (x % y) ∧ Below w.heap.size w w'
def DivNo (w w' : World) (e : Ending) : Prop := ∃ vq vr, e = .returned (.tuple #[vq, vr, .bool false]) ∧ IsNat w' vq 0 ∧ IsNat w' vr 0 ∧ Below w.heap.size w w'
theorem DivPost.yes {w' : World} {e : Ending} {x y : Nat} (h : DivPost w w' e x y) (hy : 0 < y) : DivYes w w' e x y := by
  obtain ⟨vq, vr, h1, h2, h3, h4⟩ := h
  rw [if_neg (by omega)] at h3
  exact ⟨vq, vr, by rw [h1, decide_eq_true hy], h2, h3, h4⟩
theorem DivPost.no {w' : World} {e : Ending} {x : Nat} (h : DivPost w w' e x 0) : DivNo w w' e := by
  obtain ⟨vq, vr, h1, h2, h3, h4⟩ := h
  rw [Nat.div_zero] at h2
  exact ⟨vq, vr, h1, h2, h3, h4⟩
def SubYes (w w' : World) (e : Ending) (x y : Nat) : Prop := ∃ v, e = .returned (.tuple #[v, .bool true]) ∧ IsNat w' v (x - y) ∧ Below w.heap.size w w'
def SubNo (w w' : World) (e : Ending) : Prop := ∃ v, e = .returned (.tuple #[v, .bool false]) ∧ IsNat w' v 0 ∧ Below w.heap.size w w'
theorem SubPost.yes {w' : World} {e : Ending} {x y : Nat} (h : SubPost w w' e x y) (hy : y ≤ x) : SubYes w w' e x y := by
  obtain ⟨v, h1, h2, h3⟩ := h
  exact ⟨v, by rw [h1, decide_eq_true hy], h2, h3⟩
theorem SubPost.no {w' : World} {e : Ending} {x y : Nat} (h : SubPost w w' e x y) (hy : x < y) : SubNo w w' e := by
  obtain ⟨v, h1, h2, h3⟩ := h
  rw [Nat.sub_eq_zero_of_le (by omega)] at h2
  exact ⟨v, by rw [h1, decide_eq_false (by omega)], h2, h3⟩

/-- Literals, just made. -/
theorem lit_one (w : World) (g : Nat) (hg : g = w.heap.size) (x : Nat) (x' : Int) (hx' : x' = x) (hx : x < 4294967296) : Lim 1 (w.alloc (.cells #[.int .u32 x'] 41)) (.slice (some ⟨g, 0, none⟩) 1 1) x := by
  subst hg
  subst hx'
  exact ⟨_, 1, 1, fun _ => x, rfl, Nat.le_refl _, (row_one w x).rd0 (Nat.le_refl _), fun _ _ => hx, Nat.le_refl _, by simp [num]⟩
theorem lit_two (w : World) (g : Nat) (hg : g = w.heap.size) (x y : Nat) (x' y' : Int) (hx' : x' = x) (hy' : y' = y) (hx : x < 4294967296) (hy : y < 4294967296) : Lim 2 (w.alloc (.cells #[.int .u32 x', .int .u32 y'] 41)) (.slice (some ⟨g, 0, none⟩) 2 2) (x + y * 4294967296) := by
  subst hg
  subst hx'
  subst hy'
  exact ⟨_, 2, 2, two x y, rfl, Nat.le_refl _, (row_two w x y).rd0 (Nat.le_refl _), fun j _ => by unfold two; split <;> omega, Nat.le_refl _, by simp [num, two]⟩
theorem nlit_one (w : World) (g : Nat) (hg : g = w.heap.size) (x : Nat) (x' : Int) (hx' : x' = x) (hx : x < 4294967296) (h0 : x ≠ 0) : IsNat (w.alloc (.cells #[.int .u32 x'] 41)) (.slice (some ⟨g, 0, none⟩) 1 1) x := by
  subst hg
  subst hx'
  exact ⟨_, 1, 1, fun _ => x, rfl, Nat.le_refl _, (row_one w x).rd0 (Nat.le_refl _), fun _ _ => hx, .inr h0, by simp [num]⟩
theorem nlit_two (w : World) (g : Nat) (hg : g = w.heap.size) (x y : Nat) (x' y' : Int) (hx' : x' = x) (hy' : y' = y) (hx : x < 4294967296) (hy : y < 4294967296) (h0 : y ≠ 0) : IsNat (w.alloc (.cells #[.int .u32 x', .int .u32 y'] 41)) (.slice (some ⟨g, 0, none⟩) 2 2) (x + y * 4294967296) := by
  subst hg
  subst hx'
  subst hy'
  exact ⟨_, 2, 2, two x y, rfl, Nat.le_refl _, (row_two w x y).rd0 (Nat.le_refl _), fun j _ => by unfold two; split <;> omega, .inr (by simpa [two] using h0), by simp [num, two]⟩
def three (x y z : Nat) : Nat → Nat := fun j => if j = 0 then x else if j = 1 then y else z
theorem lit_three (w : World) (g : Nat) (hg : g = w.heap.size) (x y z : Nat) (x' y' z' : Int) (hx' : x' = x) (hy' : y' = y) (hz' : z' = z) (hx : x < 4294967296) (hy : y < 4294967296) (hz : z < 4294967296) : Lim 3 (w.alloc (.cells #[.int .u32 x', .int .u32 y', .int .u32 z'] 41)) (.slice (some ⟨g, 0, none⟩) 3 3) (x + y * 4294967296 + z * 18446744073709551616) := by
  subst hg
  subst hx'
  subst hy'
  subst hz'
  have hr : Row .u32 41 (w.alloc (.cells #[.int .u32 (x : Nat), .int .u32 (y : Nat), .int .u32 (z : Nat)] 41)) w.heap.size 3 (three x y z) := row_new w _ 3 _ rfl fun j hj => by
    have : j = 0 ∨ j = 1 ∨ j = 2 := by omega
    rcases this with rfl | rfl | rfl <;> rfl
  exact ⟨_, 3, 3, three x y z, rfl, Nat.le_refl _, hr.rd0 (Nat.le_refl _), fun j _ => by unfold three; split <;> (try split) <;> omega, Nat.le_refl _, by simp [num, three]⟩
end
end Go.Proofs.Ytonjecddhbckgaa
