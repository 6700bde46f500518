/- The walk of CrcTurned. -/
import Derived.Test.YtjijfbllbajdoaaCj
namespace Go.Proofs.Ytjijfbllbajdoaa
open Go.RowKit

set_option maxHeartbeats 2000000 in
theorem crcTurned_out (A : Option Addr) (n c : Nat) (at' by' : Int) (w : World) (hn : n < 4 ∨ 3000 < n ∨ by' = 0) (hn2 : n ≤ 9223372036854775807) :
    Calls Try.prog 4 #[.slice A n c, .int .u16 at', .int .u32 by'] w fun e w' => e = .returned (.bool true) ∧ Below w.heap.size w w' := by
  by_cases h1 : n < 4
  · have hd : decide ((n : Int) < 4) = true := by rw [decide_eq_true_eq]; omega
    clear hn
    go_enter Try.func4, Try.ntmps4
    go_wp2_with (go_at_call 8; refine (awake_any _).mono ?_; rintro e w1 ⟨rfl, hb1⟩)
    go_ret
    exact ⟨rfl, hb1⟩
  · have hd : decide ((n : Int) < 4) = false := by rw [decide_eq_false_iff_not]; omega
    by_cases h2 : 3000 < n
    · have hd2 : decide ((3000 : Int) < n) = true := by rw [decide_eq_true_eq]; omega
      clear hn
      go_enter Try.func4, Try.ntmps4
      go_wp2_with (go_at_call 8; refine (awake_any _).mono ?_; rintro e w1 ⟨rfl, hb1⟩)
      go_ret
      exact ⟨rfl, hb1⟩
    · have hd2 : decide ((3000 : Int) < n) = false := by rw [decide_eq_false_iff_not]; omega
      obtain rfl : by' = 0 := by omega
      clear hn
      go_enter Try.func4, Try.ntmps4
      go_wp2_with (go_at_call 8; refine (awake_any _).mono ?_; rintro e w1 ⟨rfl, hb1⟩)
      go_ret
      exact ⟨rfl, hb1⟩

/-- The bytes with i bits turned, as far as they are. -/
def TuInv (w1 wr : World) (v : Value) (n k i y : Nat) (f : Nat → Nat) : Prop := ∃ F, Own .u8 5 wr w1.heap.size v n F ∧ (∀ j, j < n → F j < 256) ∧ num 256 F n = num 256 f n ^^^ (y % 2 ^ i * 2 ^ k) ∧ Below w1.heap.size w1 wr
theorem TuInv.skip {w1 wr : World} {v : Value} {n k i y : Nat} {f : Nat → Nat} (h : TuInv w1 wr v n k i y f) (h0 : y / 2 ^ i % 2 = 0) : TuInv w1 wr v n k (i + 1) y f := by
  obtain ⟨F, h1, h2, h3, h4⟩ := h
  refine ⟨F, h1, h2, ?_, h4⟩
  rw [low_bit, h0, Nat.zero_mul, Nat.xor_zero]
  exact h3
theorem two_split (k i : Nat) : 2 ^ ((k + i) % 8) * 2 ^ (8 * ((k + i) / 8)) = 2 ^ i * 2 ^ k := by
  rw [← Nat.pow_add, ← Nat.pow_add]
  congr 1
  omega
theorem TuInv.turn {w1 wr : World} {g n c k i y : Nat} {f F : Nat → Nat} (h1 : Own .u8 5 wr w1.heap.size (.slice (some ⟨g, 0, none⟩) n c) n F) (h2 : ∀ j, j < n → F j < 256) (h3 : num 256 F n = num 256 f n ^^^ (y % 2 ^ i * 2 ^ k)) (h4 : Below w1.heap.size w1 wr)
    (hg : w1.heap.size ≤ g) (hy : y / 2 ^ i % 2 = 1) (hq : (k + i) / 8 < n) : TuInv w1 (wr.setCell ⟨g, (k + i) / 8, none⟩ (.int .u8 ((F ((k + i) / 8) ^^^ 2 ^ ((k + i) % 8) : Nat) : Int))) (.slice (some ⟨g, 0, none⟩) n c) n k (i + 1) y f := by
  have hp : 2 ^ ((k + i) % 8) < 256 := Nat.lt_of_lt_of_le (Nat.pow_lt_pow_right (by decide) (Nat.mod_lt _ (by decide))) (Nat.le_refl (2 ^ 8))
  refine ⟨_, h1.set_ _ _, fun j hj => ?_, ?_, h4.setCell hg _⟩
  · by_cases hj' : j = (k + i) / 8
    · subst hj'; rw [upd_same]; exact byte_xor (h2 _ hq) hp
    · rw [upd_ne _ _ _ hj']; exact h2 j hj
  · rw [num_poke h2 hp hq, h3, two_split, low_bit, hy, Nat.one_mul, mul_xor, Nat.xor_assoc]

set_option maxRecDepth 20000 in
set_option maxHeartbeats 2000000 in
theorem crcTurned_in (A : Option Addr) (n c : Nat) (f : Nat → Nat) (p y : Nat) (w : World) (hb : Byt w (.slice A n c) n f) (hA : A = none → n = 0 ∧ c = 0) (h4 : 4 ≤ n) (hn : n ≤ 3000) (hp : p < 65536) (hy0 : 0 < y) (hy : y < 4294967296) :
    Calls Try.prog 4 #[.slice A n c, .int .u16 (p : Nat), .int .u32 (y : Nat)] w fun e w' => e = .returned (.bool true) ∧ Below w.heap.size w w' := by
  have HB := Lib.hid hb
  have HA := Lib.hid hA
  have HF := Lib.hid hb.lt
  have hd : decide ((n : Int) < 4) = false := by rw [decide_eq_false_iff_not]; omega
  have hd2 : decide ((3000 : Int) < n) = false := by rw [decide_eq_false_iff_not]; omega
  have hd3 : ((y : Int) == 0) = false := by rw [beq_eq_false_iff_ne]; omega
  clear hb hA
  go_enter Try.func4, Try.ntmps4
  go_wp2_with fail
  refine (awake_any _).mono ?_
  rintro e w1 ⟨rfl, hb1⟩
  have HB1 := Lib.hid hb1
  clear hb1
  obtain ⟨A', c', hv, hcc, hrr, hff⟩ := HB.out.below HB1.out
  injection hv with hv1 hv2 hv3
  subst hv1 hv3
  have hbn := below_new w1 (.cells #[] 5)
  have HRD := Lib.hid (hrr.below hbn)
  have HBN := Lib.hid (bbt HB1.out hbn)
  have hown := own_none8 w1 f
  clear hrr hff hcc hv2 hbn
  have hkk : p % (8 * n - 31) < 8 * n - 31 := Nat.mod_lt _ (by omega)
  have hk0 : ((p : Int) % (8 * (n : Int) - 31)) = ((p % (8 * n - 31) : Nat) : Int) := by
    rw [Int.natCast_emod]
    congr 1
    omega
  generalize p % (8 * n - 31) = k at *
  go_wp2_with (at_builtin; refine wpList_app rfl _ _ 22 rfl .u8 5 Try.underlying22 1 u8_info (by omega) w1.heap.size _ 0 f rfl hown A n c f rfl HRD.out HA.out (by omega) (by simp) ?_; intro v2 w5 hown2 hb2 hsz2)
  have HI := Lib.hid (show TuInv w1 w5 v2 n k 0 y f from ⟨f, by
    have h2 := hown2
    rw [Nat.zero_add] at h2
    exact h2.congr fun j _ => by simp [appF], HF.out, by rw [Nat.pow_zero, Nat.mod_one, Nat.zero_mul, Nat.xor_zero], (below_new w1 _).trans hb2⟩)
  have hfm := hown2.form
  clear hown hown2 hb2 hsz2 hk0
  rw [Nat.zero_add] at hfm
  rcases hfm with ⟨_, h0⟩ | ⟨g, c2, rfl, hg, hc2⟩
  · omega
  go_loopw [9] (fun v wr => ∃ i : Nat, i ≤ 32 ∧ v = .int .i64 (i : Nat) ∧ TuInv w1 wr (.slice (some ⟨g, 0, none⟩) n c2) n k i y f) (fun v _ => 32 - (intOf v).toNat)
  case atStart => exact ⟨0, by omega, rfl, HI.out⟩
  case round =>
    obtain ⟨i, hi, rfl, hinv⟩ := hrel
    clear HI
    by_cases hlt : i < 32
    · have hz : (y : Int) / 2 ^ i = ((y / 2 ^ i : Nat) : Int) := by
        rw [Int.natCast_ediv, Int.natCast_pow]
        rfl
      have hzl : y / 2 ^ i < 4294967296 := Nat.lt_of_le_of_lt (Nat.div_le_self _ _) hy
      rcases Nat.mod_two_eq_zero_or_one (y / 2 ^ i) with h2 | h2
      · have HN := Lib.hid (hinv.skip h2)
        clear hinv
        generalize y / 2 ^ i = z at *
        have hq : ((z : Int) % 2 == 1) = false := by rw [beq_eq_false_iff_ne]; omega
        clear h2
        go_wp2
        go_roundw
        case rel => exact ⟨i + 1, by omega, by go_num, HN.out⟩
        case measure => simp [intOf]; omega
      · obtain ⟨F, h1, hF, h3, h5⟩ := hinv
        have hqn : (k + i) / 8 < n := by omega
        have HN := Lib.hid (TuInv.turn h1 hF h3 h5 hg h2 hqn)
        have hcell := h1.rd_.at_ hqn
        rw [add_mk, Nat.zero_add] at hcell
        have hfz := h1.frozen ((k + i) / 8)
        have hFq := hF _ hqn
        generalize hqe : (k + i) / 8 = q at *
        generalize hre : (k + i) % 8 = r at *
        have hr8 : r < 8 := by omega
        have i1 : ((k : Int) + (i : Int)) / 8 = (q : Int) := by omega
        have i2 : ((k : Int) + (i : Int)) % 8 = (r : Int) := by omega
        clear hqe hre
        generalize y / 2 ^ i = z at *
        have hq : ((z : Int) % 2 == 1) = true := by rw [beq_iff_eq]; omega
        generalize F q = x at *
        have HX := Lib.hid (u8_xor_nat x (2 ^ r) (by omega) (Nat.lt_of_lt_of_le (Nat.pow_lt_pow_right (by decide) hr8) (Nat.le_refl (2 ^ 8))))
        have HE := Lib.hid (show ((2 : Int) ^ r % 256) = ((2 ^ r : Nat) : Int) from by
          have hp : 2 ^ r < 256 := Nat.lt_of_lt_of_le (Nat.pow_lt_pow_right (by decide) hr8) (Nat.le_refl (2 ^ 8))
          have e : ((2 ^ r : Nat) : Int) = (2 : Int) ^ r := by rw [Int.natCast_pow]; rfl
          have hgen : ∀ t : Nat, t < 256 → (t : Int) % 256 = (t : Int) := fun t h => by omega
          rw [← e]
          exact hgen _ hp)
        clear h2 h1 hF h3 h5
        go_wp2
        go_roundw
        case rel => exact ⟨i + 1, by omega, by go_num, by rw [HE.out, HX.out]; exact HN.out⟩
        case measure => simp [intOf]; omega
    · obtain rfl : i = 32 := by omega
      obtain ⟨F, h1, hF, h3, h5⟩ := hinv
      rw [Nat.mod_eq_of_lt (a := y) (b := 2 ^ 32) (by omega)] at h3
      have hdif : ¬ crcN F n = crcN f n := fun e => by
        have := (crcN_at HF.out hF hy (by omega) h3).1 e
        omega
      have HOW := Lib.hid (own_byt h1 hF)
      have HBW := Lib.hid (bbt HB1.out h5)
      clear h1 h3 h5
      have h6 := crcN_lt (f := F) (n := n) hF
      have h7 := crcN_lt (f := f) (n := n) HF.out
      have HS1 := Lib.hid (sum_b HOW.out (by omega))
      have HS2 := Lib.hid (fun (w0 : World) (h : Byt w0 (.slice A n c) n f) => sum_b h (by omega))
      generalize crcN F n = S1 at *
      generalize crcN f n = S2 at *
      have hne : ((S1 : Int) != (S2 : Int)) = true := by rw [bne_iff_ne]; omega
      clear hdif h6 h7 hF
      go_wp2_with fail
      refine HS1.out.mono ?_
      rintro e w6 ⟨rfl, hb6⟩
      have HB6 := Lib.hid (bbt HBW.out hb6)
      clear hb6
      go_wp2_with fail
      refine (HS2.out _ (HB.out.below HB6.out)).mono ?_
      rintro e w7 ⟨rfl, hb7⟩
      have HB7 := Lib.hid (bbt HB6.out hb7)
      clear hb7
      go_wp2
      go_ret
      exact ⟨rfl, HB7.out⟩
end Go.Proofs.Ytjijfbllbajdoaa
