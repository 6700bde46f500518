/- The sum of 32 bits, as numbers: shifts, linear by exclusive or; what n bytes come to. Nothing of the program is in here. -/
import Derived.Test.YtmedmeabjlmggaaNat0
namespace Go.Proofs.Ytmedmeabjlmggaa

def sh (x : Nat) : Nat := (x / 2) ^^^ (if x % 2 = 1 then 3988292384 else 0)
def shn : Nat → Nat → Nat
  | 0, x => x
  | n + 1, x => shn n (sh x)

theorem xor4 (a b c d : Nat) : (a ^^^ b) ^^^ (c ^^^ d) = (a ^^^ c) ^^^ (b ^^^ d) := by
  rw [Nat.xor_assoc, Nat.xor_assoc, ← Nat.xor_assoc b c d, Nat.xor_comm b c, Nat.xor_assoc c b d]
theorem half_xor (x y : Nat) : (x ^^^ y) / 2 = (x / 2) ^^^ (y / 2) := by
  have h := Nat.shiftRight_xor_distrib (a := x) (b := y) (i := 1)
  simpa [Nat.shiftRight_eq_div_pow] using h
theorem par_xor (x y : Nat) : (x ^^^ y) % 2 = (x % 2 + y % 2) % 2 := by
  have h := Nat.xor_mod_two_pow (a := x) (b := y) (n := 1)
  rw [Nat.pow_one] at h
  rw [h]
  rcases Nat.mod_two_eq_zero_or_one x with h | h <;> rcases Nat.mod_two_eq_zero_or_one y with h' | h' <;> simp [h, h']
theorem sh_xor (x y : Nat) : sh (x ^^^ y) = sh x ^^^ sh y := by
  unfold sh
  rw [half_xor, par_xor]
  rcases Nat.mod_two_eq_zero_or_one x with h | h <;> rcases Nat.mod_two_eq_zero_or_one y with h' | h' <;> simp [h, h', Nat.xor_assoc]
  · rw [Nat.xor_comm 3988292384]
  · rw [← Nat.xor_assoc 3988292384, Nat.xor_comm 3988292384, Nat.xor_assoc, Nat.xor_self, Nat.xor_zero]
theorem sh_zero : sh 0 = 0 := by decide
theorem shn_zero : ∀ n, shn n 0 = 0
  | 0 => rfl
  | n + 1 => by rw [shn, sh_zero, shn_zero n]
theorem shn_xor : ∀ n x y, shn n (x ^^^ y) = shn n x ^^^ shn n y
  | 0, _, _ => rfl
  | n + 1, x, y => by rw [shn, sh_xor, shn_xor n]; rfl
theorem shn_add : ∀ m n x, shn (m + n) x = shn n (shn m x)
  | 0, n, x => by rw [Nat.zero_add]; rfl
  | m + 1, n, x => by rw [show m + 1 + n = (m + n) + 1 by omega, shn, shn_add m n]; rfl
theorem sh_dbl (x : Nat) : sh (2 * x) = x := by
  unfold sh
  have h1 : 2 * x / 2 = x := by omega
  have h2 : 2 * x % 2 = 0 := by omega
  rw [h1, h2]; simp
theorem shn_shl : ∀ n x, shn n (x * 2 ^ n) = x
  | 0, x => by simp [shn]
  | n + 1, x => by
    rw [shn, show x * 2 ^ (n + 1) = 2 * (x * 2 ^ n) by rw [Nat.pow_succ, ← Nat.mul_assoc]; exact Nat.mul_comm _ _, sh_dbl, shn_shl n]
theorem sh_lt {x : Nat} (h : x < 4294967296) : sh x < 4294967296 := by
  unfold sh
  exact Nat.xor_lt_two_pow (n := 32) (by omega) (by split <;> decide)
theorem shn_lt : ∀ n {x : Nat}, x < 4294967296 → shn n x < 4294967296
  | 0, _, h => h
  | n + 1, _, h => by rw [shn]; exact shn_lt n (sh_lt h)
theorem sh_none {x : Nat} (h : x < 4294967296) (hs : sh x = 0) : x = 0 := by
  unfold sh at hs
  by_cases h1 : x % 2 = 1
  · rw [if_pos h1] at hs
    have h2 : x / 2 = 3988292384 := by
      have : (x / 2 ^^^ 3988292384) ^^^ 3988292384 = 0 ^^^ 3988292384 := by rw [hs]
      rwa [Nat.xor_assoc, Nat.xor_self, Nat.xor_zero, Nat.zero_xor] at this
    omega
  · rw [if_neg h1, Nat.xor_zero] at hs
    omega
theorem shn_none : ∀ n {x : Nat}, x < 4294967296 → shn n x = 0 → x = 0
  | 0, _, _, h => h
  | n + 1, _, h, hs => sh_none h (shn_none n (sh_lt h) hs)
theorem shn_at {n k x : Nat} (hk : k ≤ n) (hx : x < 4294967296) : shn n (x * 2 ^ k) = 0 ↔ x = 0 := by
  obtain ⟨m, rfl⟩ : ∃ m, n = k + m := ⟨n - k, by omega⟩
  rw [shn_add, shn_shl]
  exact ⟨shn_none m hx, fun h => by rw [h, shn_zero]⟩
theorem add_xor {a k : Nat} (b : Nat) (h : a < 2 ^ k) : a + b * 2 ^ k = a ^^^ (b * 2 ^ k) := by
  apply Nat.eq_of_testBit_eq
  intro j
  rw [Nat.add_comm, Nat.mul_comm, Nat.testBit_two_pow_mul_add _ h, Nat.testBit_xor, Nat.testBit_two_pow_mul]
  by_cases hj : j < k
  · simp [hj, show ¬ k ≤ j by omega]
  · have : a.testBit j = false := Nat.testBit_lt_two_pow (Nat.lt_of_lt_of_le h (Nat.pow_le_pow_right (by decide) (by omega)))
    simp [hj, this, show k ≤ j by omega]
theorem mul_xor (a b k : Nat) : (a ^^^ b) * 2 ^ k = (a * 2 ^ k) ^^^ (b * 2 ^ k) := by
  have := Nat.shiftLeft_xor_distrib (a := a) (b := b) (i := k)
  simpa [Nat.shiftLeft_eq] using this
theorem p256 (n : Nat) : 256 ^ n = 2 ^ (8 * n) := by rw [Nat.pow_mul]
theorem num_lt' {f : Nat → Nat} : ∀ n, (∀ j, j < n → f j < 256) → num 256 f n < 2 ^ (8 * n)
  | 0, _ => by simp [num]
  | n + 1, h => by
    have h1 := num_lt' n (fun j hj => h j (by omega))
    have h2 := h n (by omega)
    rw [num, p256, show 8 * (n + 1) = 8 * n + 8 by omega, Nat.pow_add]
    generalize 2 ^ (8 * n) = P at *
    have h3 : (f n + 1) * P ≤ 256 * P := Nat.mul_le_mul_right _ h2
    rw [Nat.add_mul, Nat.one_mul] at h3
    omega
theorem num_x {f : Nat → Nat} {n : Nat} (h : ∀ j, j < n → f j < 256) : num 256 f (n + 1) = num 256 f n ^^^ (f n * 2 ^ (8 * n)) := by
  rw [num, p256, add_xor _ (num_lt' n h)]
theorem byte_xor {a b : Nat} (ha : a < 256) (hb : b < 256) : a ^^^ b < 256 := Nat.xor_lt_two_pow (n := 8) ha hb
theorem num_xor {f g : Nat → Nat} : ∀ n, (∀ j, j < n → f j < 256) → (∀ j, j < n → g j < 256) → num 256 (fun j => f j ^^^ g j) n = num 256 f n ^^^ num 256 g n
  | 0, _, _ => by simp [num]
  | n + 1, h, h' => by
    rw [num_x (fun j hj => byte_xor (h j (by omega)) (h' j (by omega))), num_xor n (fun j hj => h j (by omega)) (fun j hj => h' j (by omega)), num_x (fun j hj => h j (by omega)), num_x (fun j hj => h' j (by omega)), mul_xor]
    exact xor4 _ _ _ _
/-- The sum's rows of bits behind n bytes. -/
def crcS (f : Nat → Nat) : Nat → Nat
  | 0 => 4294967295
  | n + 1 => shn 8 (crcS f n ^^^ f n)
def crcN (f : Nat → Nat) (n : Nat) : Nat := 4294967295 ^^^ crcS f n
theorem crcS_num {f : Nat → Nat} : ∀ n, (∀ j, j < n → f j < 256) → crcS f n = shn (8 * n) (4294967295 ^^^ num 256 f n)
  | 0, _ => by simp [crcS, shn, num]
  | n + 1, h => by
    rw [crcS, crcS_num n (fun j hj => h j (by omega)), num_x (fun j hj => h j (by omega)), show 8 * (n + 1) = 8 * n + 8 by omega, shn_add, ← Nat.xor_assoc, shn_xor (8 * n) _ (f n * 2 ^ (8 * n)), shn_shl]
theorem crcS_lt {f : Nat → Nat} : ∀ n, (∀ j, j < n → f j < 256) → crcS f n < 4294967296
  | 0, _ => by simp [crcS]
  | n + 1, h => shn_lt 8 (Nat.xor_lt_two_pow (n := 32) (crcS_lt n (fun j hj => h j (by omega))) (by have := h n (by omega); omega))
theorem crcN_lt {f : Nat → Nat} {n : Nat} (h : ∀ j, j < n → f j < 256) : crcN f n < 4294967296 := Nat.xor_lt_two_pow (n := 32) (by decide) (crcS_lt n h)
theorem crcN_congr {f g : Nat → Nat} {n : Nat} (h : ∀ j, j < n → f j = g j) : crcN f n = crcN g n := by
  unfold crcN
  congr 1
  induction n with
  | zero => rfl
  | succ n ih => rw [crcS, crcS, ih (fun j hj => h j (by omega)), h n (by omega)]
theorem crc_step (s c : Nat) : (s / 256) ^^^ shn 8 ((s % 256) ^^^ c) = shn 8 (s ^^^ c) := by
  have e : s = (s % 256) ^^^ (s / 256 * 2 ^ 8) := by
    rw [← add_xor (a := s % 256) (k := 8) (s / 256) (by omega)]
    omega
  have : shn 8 (s ^^^ c) = shn 8 ((s / 256 * 2 ^ 8) ^^^ ((s % 256) ^^^ c)) := by
    rw [← Nat.xor_assoc, Nat.xor_comm (s / 256 * 2 ^ 8), ← e]
  rw [this, shn_xor 8 (s / 256 * 2 ^ 8), shn_shl]
theorem xor_cancel {a b c : Nat} (h : a ^^^ b = a ^^^ c) : b = c := by
  have : a ^^^ (a ^^^ b) = a ^^^ (a ^^^ c) := by rw [h]
  simpa [← Nat.xor_assoc] using this
theorem xor_none {a b : Nat} : a ^^^ b = 0 ↔ a = b := by
  constructor
  · intro h; exact (xor_cancel (a := a) (by rw [Nat.xor_self, h])).symm
  · intro h; rw [h, Nat.xor_self]
theorem crcN_same {f g : Nat → Nat} {n : Nat} (hf : ∀ j, j < n → f j < 256) (hg : ∀ j, j < n → g j < 256) : crcN f n = crcN g n ↔ shn (8 * n) (num 256 f n ^^^ num 256 g n) = 0 := by
  unfold crcN
  rw [crcS_num n hf, crcS_num n hg]
  have e : shn (8 * n) (num 256 f n ^^^ num 256 g n) = shn (8 * n) (4294967295 ^^^ num 256 f n) ^^^ shn (8 * n) (4294967295 ^^^ num 256 g n) := by
    rw [← shn_xor, xor4, Nat.xor_self, Nat.zero_xor]
  rw [e, xor_none]
  exact ⟨fun h => xor_cancel h, fun h => by rw [h]⟩
theorem crcN_at {f g : Nat → Nat} {n k x : Nat} (hf : ∀ j, j < n → f j < 256) (hg : ∀ j, j < n → g j < 256) (hx : x < 4294967296) (hk : k ≤ 8 * n) (h : num 256 g n = num 256 f n ^^^ (x * 2 ^ k)) :
    crcN g n = crcN f n ↔ x = 0 := by
  have e : num 256 g n ^^^ num 256 f n = x * 2 ^ k := by rw [h, Nat.xor_comm, ← Nat.xor_assoc, Nat.xor_self, Nat.zero_xor]
  rw [crcN_same hg hf, e]
  exact shn_at hk hx
theorem crcN_three {f g h : Nat → Nat} {n : Nat} (hf : ∀ j, j < n → f j < 256) (hg : ∀ j, j < n → g j < 256) (hh : ∀ j, j < n → h j < 256) :
    crcN (fun j => (f j ^^^ g j) ^^^ h j) n = (crcN f n ^^^ crcN g n) ^^^ crcN h n := by
  have hfg : ∀ j, j < n → f j ^^^ g j < 256 := fun j hj => byte_xor (hf j hj) (hg j hj)
  unfold crcN
  rw [crcS_num n (fun j hj => byte_xor (hfg j hj) (hh j hj)), crcS_num n hf, crcS_num n hg, crcS_num n hh, num_xor n hfg hh, num_xor n hf hg]
  simp only [shn_xor]
  generalize shn (8 * n) 4294967295 = F
  generalize shn (8 * n) (num 256 f n) = a
  generalize shn (8 * n) (num 256 g n) = b
  generalize shn (8 * n) (num 256 h n) = c
  apply Nat.eq_of_testBit_eq
  intro j
  simp only [Nat.testBit_xor]
  cases F.testBit j <;> cases a.testBit j <;> cases b.testBit j <;> cases c.testBit j <;> cases Nat.testBit 4294967295 j <;> rfl

/-- bits of a number, a lower part and one bit more. -/
theorem low_bit (x i : Nat) : x % 2 ^ (i + 1) = (x % 2 ^ i) ^^^ ((x / 2 ^ i % 2) * 2 ^ i) := by
  rw [← add_xor _ (Nat.mod_lt _ (Nat.pow_pos (by decide))), Nat.pow_succ, Nat.mod_mul, Nat.mul_comm]
theorem num_poke {f : Nat → Nat} {n q v : Nat} (hf : ∀ j, j < n → f j < 256) (hv : v < 256) (hq : q < n) : num 256 (upd f q (f q ^^^ v)) n = num 256 f n ^^^ (v * 2 ^ (8 * q)) := by
  have hu : ∀ m, m ≤ n → ∀ j, j < m → upd f q (f q ^^^ v) j < 256 := fun m hm j hj => by
    by_cases h : j = q
    · subst h; rw [upd_same]; exact byte_xor (hf j (by omega)) hv
    · rw [upd_ne _ _ _ h]; exact hf j (by omega)
  induction n with
  | zero => omega
  | succ n ih =>
    rw [num_x (fun j hj => hu (n + 1) (Nat.le_refl _) j (by omega)), num_x (fun j hj => hf j (by omega))]
    by_cases h : q = n
    · subst h
      rw [upd_same, num_upd _ _ (Nat.le_refl _), mul_xor, Nat.xor_assoc]
    · rw [upd_ne _ _ _ (fun e => h e.symm), ih (fun j hj => hf j (by omega)) (by omega) (fun m hm j hj => hu m (by omega) j hj)]
      rw [Nat.xor_assoc, Nat.xor_comm (v * 2 ^ (8 * q)), ← Nat.xor_assoc]
theorem num_appF {f g : Nat → Nat} {n m : Nat} : num 256 (appF f n g) (n + m) = num 256 f n + 2 ^ (8 * n) * num 256 g m := by
  rw [num_add, p256]
  congr 1
  · exact num_congr n fun j hj => by simp [appF, hj]
  · congr 1
    exact num_congr m fun j _ => by simp only [appF]; rw [if_neg (by omega), Nat.add_sub_cancel_left]
theorem num_appx {f g : Nat → Nat} {n m : Nat} (hf : ∀ j, j < n → f j < 256) : num 256 (appF f n g) (n + m) = num 256 f n ^^^ (num 256 g m * 2 ^ (8 * n)) := by
  rw [num_appF, Nat.mul_comm, add_xor _ (num_lt' n hf)]
end Go.Proofs.Ytmedmeabjlmggaa
