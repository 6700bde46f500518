/- Decimal digits. Nothing of the program is in here. -/
import Derived.Test.YtonjecddhbckgaaMem
import Derived.Laws.BytesArg
namespace Go.Proofs.Ytonjecddhbckgaa
open Go.RowKit

/-- The decimal digits of a number, none of 0. -/
def dec (N : Nat) : List UInt8 := if N = 0 then [] else dec (N / 10) ++ [UInt8.ofNat (48 + N % 10)]
termination_by N
decreasing_by exact Nat.div_lt_self (by omega) (by omega)

theorem dec_zero : dec 0 = [] := by rw [dec]; simp
theorem dec_pos {N : Nat} (h : N ≠ 0) : dec N = dec (N / 10) ++ [UInt8.ofNat (48 + N % 10)] := by rw [dec]; simp [h]
theorem dec_ne {N : Nat} (h : N ≠ 0) : dec N ≠ [] := by rw [dec_pos h]; simp

def decText (N : Nat) : List UInt8 := if N = 0 then [48] else dec N
def decS (N : Nat) : ByteArray := ⟨(decText N).toArray⟩

/-- The last k decimal digits. -/
def decK : Nat → Nat → List UInt8
  | 0, _ => []
  | k + 1, N => decK k (N / 10) ++ [UInt8.ofNat (48 + N % 10)]

theorem decK_dec : ∀ (k N : Nat), 0 < k → 10 ^ (k - 1) ≤ N → N < 10 ^ k → decK k N = dec N
  | 0, _, h, _, _ => absurd h (by omega)
  | k + 1, N, _, h1, h2 => by
    have hp : 0 < 10 ^ k := Nat.pow_pos (by omega)
    simp only [Nat.add_sub_cancel] at h1
    rw [dec_pos (by omega), decK]
    congr 1
    by_cases hk : k = 0
    · subst hk
      simp at h2
      rw [Nat.div_eq_of_lt h2, dec_zero]; rfl
    · refine decK_dec k (N / 10) (by omega) ?_ ?_
      · rw [Nat.le_div_iff_mul_le (by omega), ← Nat.pow_succ, show (k - 1).succ = k from by omega]; exact h1
      · rw [Nat.div_lt_iff_lt_mul (by omega), ← Nat.pow_succ]; exact h2

/-- The digit at a place. -/
def dig (N i : Nat) : Nat := 48 + N / 10 ^ i % 10
theorem dig_lt (N i : Nat) : dig N i < 58 := by unfold dig; omega
theorem dig_div (N i k : Nat) : dig (N / 10 ^ k) i = dig N (k + i) := by
  unfold dig; rw [Nat.div_div_eq_div_mul, ← Nat.pow_add]

theorem decK_map : ∀ (k N : Nat), decK k N = (List.range k).map fun j => UInt8.ofNat (dig N (k - 1 - j))
  | 0, _ => rfl
  | k + 1, N => by
    rw [decK, decK_map k, List.range_succ, List.map_append]
    congr 1
    · refine List.map_congr_left fun j hj => ?_
      have hj' : j < k := by simpa using hj
      have := dig_div N (k - 1 - j) 1
      rw [Nat.pow_one] at this
      rw [this]
      congr 2
      omega
    · simp [dig]

theorem dig_mod (N k i : Nat) (h : i < k) : dig (N % 10 ^ k) i = dig N i := by
  unfold dig
  have e : (10 : Nat) ^ k = 10 ^ i * 10 ^ (k - i) := by rw [← Nat.pow_add]; congr 1; omega
  have e2 : (10 : Nat) ^ (k - i) = 10 * 10 ^ (k - i - 1) := by rw [← Nat.pow_succ']; congr 1; omega
  rw [e, Nat.mod_mul_right_div_self, e2, Nat.mod_mul_right_mod]

/-- The bytes that a function tells, as a string. -/
def strF (n : Nat) (f : Nat → Nat) : ByteArray := ⟨((List.range n).map fun j => UInt8.ofNat (f j)).toArray⟩
theorem strF_size (n : Nat) (f : Nat → Nat) : (strF n f).size = n := by simp [strF, ByteArray.size]
theorem strF_congr {n : Nat} {f f' : Nat → Nat} (h : ∀ j, j < n → f j = f' j) : strF n f = strF n f' := by
  unfold strF
  congr 2
  exact List.map_congr_left fun j hj => by rw [h j (by simpa using hj)]

/-- What Text's places say is the number's text. -/
theorem strF_dec {N k : Nat} (hk : 0 < k) (h1 : 10 ^ (k - 1) ≤ N) (h2 : N < 10 ^ k) {f : Nat → Nat} (hf : ∀ j, j < k → f j = dig N (k - 1 - j)) : strF k f = decS N := by
  have hp : 0 < 10 ^ (k - 1) := Nat.pow_pos (by omega)
  unfold decS decText
  rw [if_neg (by omega), ← decK_dec k N hk h1 h2, decK_map]
  exact strF_congr hf

/-- The highest digit that isn't 0. -/
theorem top_digit {N k : Nat} (hk : 0 < k) (h2 : N < 10 ^ k) : dig N (k - 1) = 48 ↔ N < 10 ^ (k - 1) := by
  have hp : 0 < 10 ^ (k - 1) := Nat.pow_pos (by omega)
  have hlt : N / 10 ^ (k - 1) < 10 := by
    rw [Nat.div_lt_iff_lt_mul hp, Nat.mul_comm, ← Nat.pow_succ, show (k - 1).succ = k from by omega]; exact h2
  unfold dig
  rw [Nat.mod_eq_of_lt hlt]
  constructor
  · intro h
    have h0 : N / 10 ^ (k - 1) = 0 := by omega
    rcases Nat.div_eq_zero_iff.1 h0 with h | h
    · omega
    · exact h
  · intro h; rw [Nat.div_eq_of_lt h]

section
variable {P : Program} (w : World)
theorem run_conv_rd (src e : TypeId) (hs : P.underlying src = some (.slice e)) (he : P.underlying e = some (.int .u8)) (g o n c : Nat) (f : Nat → Nat) (h : Rd .u8 w (some ⟨g, o, none⟩) n f)
    (dst : TypeId) (hd : P.underlying dst = some .string) : (convert src dst (.slice (some ⟨g, o, none⟩) n c)).run P w = .ok (.string (strF n f)) w := by
  have := run_convert_bytes_arg (P := P) w src e hs he g o n c ((List.range n).map fun j => (f j : Int)) (by simp) (fun i hi => by
    have h1 := h.at_ hi
    rw [add_mk] at h1
    rw [h1]
    simp [List.getD, hi]) dst hd
  rw [this]
  unfold strOfNums strF
  congr 4
  rw [List.map_map]
  rfl
end
end Go.Proofs.Ytonjecddhbckgaa
