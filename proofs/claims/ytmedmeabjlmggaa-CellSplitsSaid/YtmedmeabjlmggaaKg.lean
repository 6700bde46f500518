/- Contract: are two rows of bytes the same? -/
import Derived.Test.YtmedmeabjlmggaaKa
namespace Go.Proofs.Ytmedmeabjlmggaa
open Go.RowKit
set_option linter.unusedSimpArgs false
set_option linter.unusedVariables false

def RowsPost (w w' : World) (e : Ending) (n m : Nat) (f h : Nat → Nat) : Prop := (∃ b, e = .returned (.bool b) ∧ (b = true ↔ n = m ∧ ∀ j, j < n → f j = h j)) ∧ Below w.heap.size w w'
set_option maxRecDepth 100000 in
set_option maxHeartbeats 2000000 in
theorem rows_any (A : Option Addr) (n c : Nat) (f : Nat → Nat) (B : Option Addr) (m d : Nat) (h : Nat → Nat) (w : World) (ha : Rd .u8 w A n f) (hb : Rd .u8 w B m h) (hf : ∀ j, j < n → f j < 256) (hh : ∀ j, j < m → h j < 256) (hn : n ≤ 4611686018427387904) (hm : m ≤ 4611686018427387904) :
    Calls Try.prog 14 #[.slice A n c, .slice B m d] w fun e w' => RowsPost w w' e n m f h := by
  by_cases hnm : n = m
  · subst hnm
    go_enter Try.func14, Try.ntmps14
    go_wp2
    go_loopw [5] (fun v wr => ∃ k : Nat, k ≤ n ∧ v = .int .i64 k ∧ Below w.heap.size w wr ∧ ∀ j, j < k → f j = h j) (fun v _ => n - (intOf v).toNat)
    case atStart => exact ⟨0, Nat.zero_le _, rfl, Below.refl _ _, fun j hj => absurd hj (by omega)⟩
    case round =>
      obtain ⟨k, hk, rfl, hbl, hE⟩ := hrel
      have HA := Lib.hid ha
      have HB := Lib.hid hb
      have HF := Lib.hid hf
      have HH := Lib.hid hh
      have HE := Lib.hid hE
      clear ha hb hf hh hE
      by_cases hlt : k < n
      · obtain ⟨ad, rfl, hc1⟩ := (HA.out.below hbl) k hlt
        obtain ⟨bd, rfl, hc2⟩ := (HB.out.below hbl) k hlt
        by_cases hq : f k = h k
        · have HQ := Lib.hid hq
          rw [← hq] at hc2
          clear hq
          go_wp2
          go_quiet (fail)
          go_wp2
          go_roundw
          case rel => exact ⟨k + 1, by omega, by go_num, Below.drewN_ hbl _, fun j hj => by
            by_cases hjk : j = k
            · subst hjk; exact HQ.out
            · exact HE.out j (by omega)⟩
          case measure => simp [intOf]; omega
        · have hne : ((f k : Int) != (h k : Int)) = true := by rw [bne_iff_ne]; omega
          have hne2 : ¬ ((f k : Int) = (h k : Int)) := by omega
          have HQ := Lib.hid hq
          clear hq
          go_wp2
          go_quiet (fail)
          go_wp2
          go_ret
          exact ⟨⟨_, rfl, by simp; exact ⟨k, hlt, HQ.out⟩⟩, Below.drewN_ hbl _⟩
      · go_wp2
        go_ret
        obtain rfl : k = n := by omega
        exact ⟨⟨_, rfl, by simp; exact HE.out⟩, hbl⟩
  · have hne : ((n : Int) != (m : Int)) = true := by rw [bne_iff_ne]; omega
    have HQ := Lib.hid hnm
    have hn2 : ¬ ((n : Int) = (m : Int)) := by omega
    clear hnm
    go_enter Try.func14, Try.ntmps14
    go_wp2
    go_ret
    exact ⟨⟨_, rfl, by simp; intro h; exact absurd h HQ.out⟩, Below.refl _ _⟩
theorem rows_by {w : World} {v1 v2 : Value} {n m : Nat} {f g : Nat → Nat} (h1 : Byt w v1 n f) (h2 : Byt w v2 m g) (hn : n ≤ 4611686018427387904) (hm : m ≤ 4611686018427387904) :
    Calls Try.prog 14 #[v1, v2] w fun e w' => RowsPost w w' e n m f g := by
  obtain ⟨A, c, rfl, _, a1, a2⟩ := h1
  obtain ⟨B, d, rfl, _, b1, b2⟩ := h2
  exact rows_any A n c f B m d g w a1 b1 a2 b2 hn hm
end Go.Proofs.Ytmedmeabjlmggaa
