/- Contracts: pushGroup. -/
import Derived.Test.YtonjecddhbckgaaCn
import Derived.Test.YtonjecddhbckgaaCk
import Derived.Test.YtonjecddhbckgaaLaw
namespace Go.Proofs.Ytonjecddhbckgaa
open Go.RowKit

/-- The value of decimal characters, the highest first. -/
def dval (f : Nat → Nat) : Nat → Nat
  | 0 => 0
  | k + 1 => 10 * dval f k + (f k - 48)
theorem dval_lt {f : Nat → Nat} : ∀ k, (∀ i, i < k → f i ≤ 57) → dval f k < 10 ^ k
  | 0, _ => by simp [dval]
  | k + 1, h => by
    have h1 := dval_lt k fun i hi => h i (by omega)
    have h2 := h k (by omega)
    rw [dval, Nat.pow_succ]
    omega
theorem dval_add (f : Nat → Nat) (a : Nat) : ∀ b, dval f (a + b) = dval f a * 10 ^ b + dval (fun j => f (a + j)) b
  | 0 => by simp [dval]
  | b + 1 => by
    rw [← Nat.add_assoc, dval, dval_add f a b, dval, Nat.pow_succ, Nat.mul_add, ← Nat.add_assoc]
    congr 2
    rw [Nat.mul_comm 10, Nat.mul_assoc]
theorem dval_congr {f f' : Nat → Nat} : ∀ k, (∀ i, i < k → f i = f' i) → dval f k = dval f' k
  | 0, _ => rfl
  | k + 1, h => by rw [dval, dval, dval_congr k fun i hi => h i (by omega), h k (by omega)]

/-- After k limbs: times M, and cy0 besides. -/
def MulAddInv (k M cy0 cy : Nat) (f f' : Nat → Nat) : Prop :=
  cy < M ∧ (∀ j, k ≤ j → f' j = f j) ∧ (∀ j, j < k → f' j < 4294967296) ∧ num 4294967296 f' k + cy * 4294967296 ^ k = num 4294967296 f k * M + cy0

theorem MulAddInv.step {k M cy0 cy : Nat} {f f' : Nat → Nat} (hi : MulAddInv k M cy0 cy f f') (hf : f k < 4294967296) :
    MulAddInv (k + 1) M cy0 ((cy + f' k * M) / 4294967296) f (upd f' k ((cy + f' k * M) % 4294967296)) := by
  obtain ⟨h1, h2, h3, h4⟩ := hi
  have e0 : f' k = f k := h2 k (Nat.le_refl _)
  rw [e0]
  have hlt : (cy + f k * M) / 4294967296 < M := by
    rw [Nat.div_lt_iff_lt_mul (by omega)]
    have : (f k + 1) * M ≤ 4294967296 * M := Nat.mul_le_mul_right _ hf
    rw [Nat.add_mul, Nat.one_mul] at this
    rw [Nat.mul_comm M]
    omega
  refine ⟨hlt, fun j hj => ?_, fun j hj => ?_, ?_⟩
  · rw [upd_ne _ _ _ (by omega)]; exact h2 j (by omega)
  · by_cases hjk : j = k
    · subst hjk; rw [upd_same]; exact Nat.mod_lt _ (by omega)
    · rw [upd_ne _ _ _ (by omega)]; exact h3 j (by omega)
  · rw [num_succ, num_succ, upd_same, num_upd _ _ (Nat.le_refl _)]
    have hd := Nat.div_add_mod (cy + f k * M) 4294967296
    generalize (cy + f k * M) % 4294967296 = r at *
    generalize (cy + f k * M) / 4294967296 = q at *
    have e3 : r * 4294967296 ^ k + q * 4294967296 ^ (k + 1) = (cy + f k * M) * 4294967296 ^ k := by
      rw [← hd, Nat.pow_succ, Nat.add_mul, Nat.add_comm]
      congr 1
      rw [Nat.mul_comm (4294967296 ^ k), ← Nat.mul_assoc, Nat.mul_comm q]
    rw [Nat.add_mul] at e3
    have e5 : (num 4294967296 f k + f k * 4294967296 ^ k) * M = num 4294967296 f k * M + f k * M * 4294967296 ^ k := by
      rw [Nat.add_mul, Nat.mul_assoc, Nat.mul_comm (4294967296 ^ k) M, ← Nat.mul_assoc]
    rw [e5]
    omega

theorem trimmed_of_low {f : Nat → Nat} {n : Nat} (hf : ∀ j, j < n → f j < 4294967296) (h : n = 0 ∨ 4294967296 ^ (n - 1) ≤ num 4294967296 f n) : Trimmed f n := by
  rcases h with h | h
  · exact .inl h
  · by_cases hn : n = 0
    · exact .inl hn
    · right
      intro h0
      obtain ⟨k, rfl⟩ : ∃ k, n = k + 1 := ⟨n - 1, by omega⟩
      simp only [Nat.add_sub_cancel] at h h0
      rw [num_succ, h0] at h
      have := num_lt (B := 4294967296) (f := f) (by omega) k fun j hj => hf j (by omega)
      omega

/-- A trimmed number of the call's own. -/
def OwnNat (w : World) (base : Nat) (v : Value) (N : Nat) : Prop :=
  ∃ n f, Own .u32 41 w base v n f ∧ (∀ j, j < n → f j < 4294967296) ∧ Trimmed f n ∧ num 4294967296 f n = N

def PushPost (w w' : World) (e : Ending) (base N : Nat) : Prop := ∃ v, e = .returned v ∧ OwnNat w' base v N ∧ Below base w w'

theorem u32_info' : (Try.prog.info? 41).map (fun i => (i.zero, i.size, i.bytes)) = some (some (.int .u32 0), 1, 4) := by kernel_rfl

set_option maxHeartbeats 1000000 in
theorem pushGroup_any (base : Nat) (v : Value) (n : Nat) (f : Nat → Nat) (s : ByteArray) (w : World) (hown : Own .u32 41 w base v n f) (hbase : base ≤ w.heap.size) (hf : ∀ j, j < n → f j < 4294967296) (ht : Trimmed f n) (hn : n ≤ 1099511627776)
    (hs : s.size ≤ 9) (hd : ∀ i, i < s.size → 48 ≤ bt s i ∧ bt s i ≤ 57) :
    Calls Try.prog 57 #[v, .string s] w fun e w' => PushPost w w' e base (num 4294967296 f n * 1000000000 + dval (bt s) s.size) := by
  have HD := Lib.hid hd
  clear hd
  obtain ⟨A, c, rfl, hA⟩ : ∃ A c, v = .slice A n c ∧ (0 < n → ∃ g, A = some ⟨g, 0, none⟩ ∧ base ≤ g) := by
    rcases hown.form with ⟨rfl, rfl⟩ | ⟨g, c, rfl, hg, _⟩
    · exact ⟨none, 0, rfl, fun h => absurd h (by omega)⟩
    · exact ⟨_, c, rfl, fun _ => ⟨g, rfl, hg⟩⟩
  have HA := Lib.hid hA
  have HO := Lib.hid hown
  have HF := Lib.hid hf
  have HT := Lib.hid ht
  clear hA hown hf ht
  go_enter Try.func57, Try.ntmps57
  go_wp2
  go_loop [5, 6, 10] (fun v5 _ v10 => ∃ k cy, k ≤ s.size ∧ v5 = .int .u64 (cy : Nat) ∧ v10 = .int .i64 (k : Nat) ∧ cy = dval (bt s) k) (fun _ _ v10 => s.size - (intOf v10).toNat)
  case atStart => exact ⟨0, 0, Nat.zero_le _, rfl, rfl, rfl⟩
  case round =>
    obtain ⟨k, cy, hk, rfl, rfl, hcy⟩ := hrel
    by_cases hlt : k < s.size
    · have hb := HD.out k hlt
      have eb := bt_get s k hlt
      have hc1 : cy < 10 ^ k := by rw [hcy]; exact dval_lt k fun i hi => (HD.out i (by omega)).2
      have hc2 : cy < 1000000000 := Nat.lt_of_lt_of_le hc1 (Nat.le_trans (Nat.pow_le_pow_right (by omega) (show k ≤ 9 by omega)) (by decide))
      have g1 : (48 : Int) ≤ (s[k].toNat : Int) := by omega
      have g2 : (s[k].toNat : Int) ≤ 57 := by omega
      have HC : Hid (10 * cy + (s[k].toNat - 48) = dval (bt s) (k + 1)) := by
        show _ = _
        rw [dval, ← hcy, eb]
      have hN := Lib.hid hcy
      clear hcy hc1 eb hb
      go_wp2
      go_round
      case rel => exact ⟨k + 1, 10 * cy + (s[k].toNat - 48), by omega, by go_num, by go_num, HC.out⟩
      case measure => simp [intOf]; omega
    · obtain rfl : k = s.size := by omega
      have hc1 : cy < 10 ^ s.size := by rw [hcy]; exact dval_lt s.size fun i hi => (HD.out i (by omega)).2
      have hc2 : cy < 1000000000 := Nat.lt_of_lt_of_le hc1 (Nat.le_trans (Nat.pow_le_pow_right (by omega) hs) (by decide))
      have HCY := Lib.hid hcy
      clear hcy hc1 HD
      go_wp2
      go_loopw [5, 7, 24] (fun v5 _ v24 wr => ∃ k cy2 f', k ≤ n ∧ v5 = .int .u64 (cy2 : Nat) ∧ v24 = .int .i64 (k : Nat) ∧ MulAddInv k 1000000000 cy cy2 f f' ∧ Own .u32 41 wr base (.slice A n c) n f' ∧ Below base w wr) (fun _ _ v24 _ => n - (intOf v24).toNat)
      case atStart => exact ⟨0, cy, f, Nat.zero_le _, rfl, rfl, ⟨hc2, fun _ _ => rfl, fun _ hj => absurd hj (by omega), by simp [num]⟩, HO.out, Below.refl _ _⟩
      case round =>
        obtain ⟨k, cy2, f', hk, rfl, rfl, hinv, hown, hbl⟩ := hrel
        have hcy2 : cy2 < 1000000000 := hinv.1
        by_cases hlt : k < n
        · obtain ⟨g, rfl, hgb⟩ := HA.out (by omega)
          have hcell := (hown.rd_).at_ hlt
          rw [add_mk, Nat.zero_add] at hcell
          have hfz := hown.frozen k
          have b1 : f' k < 4294967296 := by rw [hinv.2.1 k (Nat.le_refl _)]; exact HF.out k hlt
          have HI := Lib.hid (hinv.step (HF.out k hlt))
          have HO2 := Lib.hid (hown.set_ k ((cy2 + f' k * 1000000000) % 4294967296))
          have HB2 := Lib.hid (hbl.setCell (p := ⟨g, k, none⟩) hgb (.int .u32 ((cy2 + f' k * 1000000000) % 4294967296 : Nat)))
          clear hinv hown hbl
          go_wp2
          go_roundw
          case rel => exact ⟨k + 1, _, _, by omega, rfl, by go_num, HI.out, HO2.out, HB2.out⟩
          case measure => simp [intOf]; omega
        · obtain rfl : k = n := by omega
          obtain ⟨i1, i2, i3, i4⟩ := hinv
          rw [HCY.out] at i4
          by_cases hz : cy2 = 0
          · subst hz
            have HQ : Hid (OwnNat wr base (.slice A k c) (num 4294967296 f k * 1000000000 + dval (bt s) s.size)) := by
              refine ⟨k, f', hown, i3, trimmed_of_low i3 ?_, by omega⟩
              rcases Nat.eq_zero_or_pos k with h0 | h0
              · exact .inl h0
              · right
                have := HT.out.low h0 (B := 4294967296)
                omega
            clear i2 i3 i4 hown
            go_wp2
            go_ret
            exact ⟨_, rfl, HQ.out, hbl⟩
          · have hg3 : ((cy2 : Int) != 0) = true := by rw [bne_iff_ne]; omega
            have HZ : Hid (cy2 ≠ 0) := hz
            have I3 := Lib.hid i3
            have I4 := Lib.hid i4
            have hwb : base ≤ wr.heap.size := Nat.le_trans hbase hbl.size
            clear i2 i3 i4 hz
            have hrd1 : Rd .u32 (wr.alloc (.cells #[.int .u32 (cy2 : Nat)] 41)) (some ⟨wr.heap.size, 0, none⟩) 1 (fun _ => cy2) := (row_one wr cy2).rd0 (Nat.le_refl _)
            have hown1 := hown.alloc (.cells #[.int .u32 (cy2 : Nat)] 41)
            go_wp2_with (at_builtin; refine wpList_app rfl (.tmp 45) (.tmp 48) 22 rfl .u32 41 Try.underlying22 4 u32_info' (by omega) base (.slice A k c) k f' rfl hown1 (some ⟨wr.heap.size, 0, none⟩) 1 1 (fun _ => cy2) rfl hrd1 (fun h => by cases h) (by omega) (by simp; omega) ?_; intro v2 w2 hown2 hb2 hsz2)
            go_ret
            refine ⟨v2, rfl, ⟨k + 1, _, hown2, fun j hj => ?_, .inr ?_, ?_⟩, (hbl.trans ((below_new wr _).mono (by omega))).trans hb2⟩
            · simp only [appF]
              split
              · exact I3.out j ‹_›
              · omega
            · simp only [Nat.add_sub_cancel, appF, Nat.lt_irrefl, if_false]
              exact HZ.out
            · rw [num_succ, num_congr (f' := f') k (fun j hj => by simp [appF, hj])]
              simp only [appF, Nat.lt_irrefl, if_false]
              exact I4.out
end Go.Proofs.Ytonjecddhbckgaa
