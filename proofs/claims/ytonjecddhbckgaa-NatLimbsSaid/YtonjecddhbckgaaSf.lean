/- Contracts: Same, where it is false; Cmp by its value. -/
import Derived.Test.YtonjecddhbckgaaRow
namespace Go.Proofs.Ytonjecddhbckgaa
open Go.RowKit

set_option maxHeartbeats 1000000 in
theorem same_false_len (A : Option Addr) (n c : Nat) (B : Option Addr) (m d : Nat) (w : World) (hne : n ≠ m) :
    Calls Try.prog 15 #[.slice A n c, .slice B m d] w fun e w' => e = .returned (.bool false) ∧ Below w.heap.size w w' := by
  have hg : ((n : Int) != (m : Int)) = true := by rw [bne_iff_ne]; omega
  go_enter Try.func15, Try.ntmps15
  go_wp2
  go_ret
  exact ⟨rfl, Below.refl _ _⟩

set_option maxHeartbeats 1000000 in
theorem same_false_at (A : Option Addr) (n c : Nat) (f : Nat → Nat) (B : Option Addr) (d : Nat) (h : Nat → Nat) (w : World) (ha : Rd .u32 w A n f) (hb : Rd .u32 w B n h) (hn : n ≤ 4611686018427387904) (he : ¬ ∀ j, j < n → f j = h j) :
    Calls Try.prog 15 #[.slice A n c, .slice B n d] w fun e w' => e = .returned (.bool false) ∧ Below w.heap.size w w' := by
  have HE := Lib.hid he
  clear he
  go_enter Try.func15, Try.ntmps15
  go_wp2
  go_loopw [5] (fun v wr => ∃ k : Nat, k ≤ n ∧ v = .int .i64 k ∧ Below w.heap.size w wr ∧ ∀ j, j < k → f j = h j) (fun v _ => n - (intOf v).toNat)
  case atStart => exact ⟨0, Nat.zero_le _, rfl, Below.refl _ _, fun j hj => absurd hj (by omega)⟩
  case round =>
    obtain ⟨k, hk, rfl, hbl, hs⟩ := hrel
    have HA := Lib.hid ha
    have HB := Lib.hid hb
    have HS := Lib.hid hs
    clear ha hb hs
    have hlt : k < n := by
      rcases Nat.lt_or_ge k n with h1 | h1
      · exact h1
      · exact absurd (fun j hj => HS.out j (by omega)) HE.out
    obtain ⟨ad, rfl, hc1⟩ := (HA.out.below hbl) k hlt
    obtain ⟨bd, rfl, hc2⟩ := (HB.out.below hbl) k hlt
    by_cases hx : f k = h k
    · rw [← hx] at hc2
      have HX := Lib.hid hx
      clear hx
      go_wp2
      go_quiet (fail)
      go_wp2
      go_roundw
      case rel => exact ⟨k + 1, by omega, by go_num, Below.drewN_ hbl _, fun j hj => by
        by_cases hjk : j = k
        · subst hjk; exact HX.out
        · exact HS.out j (by omega)⟩
      case measure => simp [intOf]; omega
    · have hg : ((f k : Int) != (h k : Int)) = true := by rw [bne_iff_ne]; omega
      clear hx
      go_wp2
      go_quiet (fail)
      go_wp2
      go_ret
      exact ⟨rfl, Below.drewN_ hbl _⟩

theorem isNat_differ {k : Nat} {w : World} {v1 v2 : Value} {N M : Nat} (h1 : IsNat w v1 N) (h2 : IsNat w v2 M) (hN : N < 4294967296 ^ k) (hM : M < 4294967296 ^ k) (hk : k ≤ 1000000) (hne : N ≠ M) :
    Calls Try.prog 15 #[v1, v2] w fun e w' => e = .returned (.bool false) ∧ Below w.heap.size w w' := by
  obtain ⟨A, n, c, f, rfl, a1, a2, a3, a4, a5⟩ := h1
  obtain ⟨B, m, d, h, rfl, b1, b2, b3, b4, b5⟩ := h2
  have hn : n ≤ k := a4.len (B := 4294967296) (by omega) (by rw [a5]; exact hN)
  have hm : m ≤ k := b4.len (B := 4294967296) (by omega) (by rw [b5]; exact hM)
  by_cases e : n = m
  · subst e
    refine same_false_at A n c f B d h w a2 b2 (by omega) fun he => hne ?_
    rw [← a5, ← b5, num_congr n he]
  · exact same_false_len A n c B m d w e

theorem lim_cmp_is {k m : Nat} {w : World} {v1 v2 : Value} {N M : Nat} (r : Int) (hr : cmpN N M = r) (h1 : Lim k w v1 N) (h2 : Lim m w v2 M) (hk : k ≤ 1000000) (hm : m ≤ 1000000) :
    Calls Try.prog 18 #[v1, v2] w fun e w' => e = .returned (.int .i64 r) ∧ Below w.heap.size w w' := by
  subst hr
  exact lim_cmp h1 h2 hk hm
theorem cmpN_lt {N M : Nat} (h : N < M) : cmpN N M = -1 := by unfold cmpN; rw [if_pos h]
theorem cmpN_eq (N : Nat) : cmpN N N = 0 := by unfold cmpN; rw [if_neg (by omega), if_pos rfl]
theorem cmpN_gt {N M : Nat} (h : M < N) : cmpN N M = 1 := by unfold cmpN; rw [if_neg (by omega), if_neg (by omega)]
def CmpGe (w w' : World) (e : Ending) : Prop := ∃ r : Int, e = .returned (.int .i64 r) ∧ 0 ≤ r ∧ Below w.heap.size w w'
theorem lim_cmp_ge {k m : Nat} {w : World} {v1 v2 : Value} {N M : Nat} (hr : M ≤ N) (h1 : Lim k w v1 N) (h2 : Lim m w v2 M) (hk : k ≤ 1000000) (hm : m ≤ 1000000) :
    Calls Try.prog 18 #[v1, v2] w fun e w' => CmpGe w w' e :=
  (lim_cmp h1 h2 hk hm).mono fun e w' ⟨h1, h2⟩ => ⟨_, h1, by unfold cmpN; rw [if_neg (by omega)]; split <;> omega, h2⟩
end Go.Proofs.Ytonjecddhbckgaa
