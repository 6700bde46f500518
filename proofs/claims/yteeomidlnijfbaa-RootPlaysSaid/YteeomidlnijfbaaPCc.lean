/- The sum of 32 bits, as numbers: shifts, linear by exclusive or; what n bytes come to. Nothing of the program is in here. -/
import Derived.Test.YteeomidlnijfbaaPNat0
import Derived.Laws.BitsAllLaws
import Derived.RegionTactic
import Derived.ChangeAlike
import Derived.IntWalk
namespace Go.Proofs.Yteeomidlnijfbaa

def sh (x : Nat) : Nat := (x / 2) ^^^ (if x % 2 = 1 then 3988292384 else 0)
def shn : Nat → Nat → Nat
  | 0, x => x
  | n + 1, x => shn n (sh x)

theorem half_xor (x y : Nat) : (x ^^^ y) / 2 = (x / 2) ^^^ (y / 2) := by
  have h := Nat.shiftRight_xor_distrib (a := x) (b := y) (i := 1)
  simpa [Nat.shiftRight_eq_div_pow] using h
theorem par_xor (x y : Nat) : (x ^^^ y) % 2 = (x % 2 + y % 2) % 2 := by
  have h := Nat.xor_mod_two_pow (a := x) (b := y) (n := 1)
  rw [Nat.pow_one] at h
  rw [h]
  rcases Nat.mod_two_eq_zero_or_one x with h | h <;> rcases Nat.mod_two_eq_zero_or_one y with h' | h' <;> simp [h, h']
theorem sh_xor (x y : Nat) : sh (x ^^^ y) = sh x ^^^ sh y := by
  unfold sh
  rw [half_xor, par_xor]
  rcases Nat.mod_two_eq_zero_or_one x with h | h <;> rcases Nat.mod_two_eq_zero_or_one y with h' | h' <;> simp [h, h', Nat.xor_assoc]
  · rw [Nat.xor_comm 3988292384]
  · rw [← Nat.xor_assoc 3988292384, Nat.xor_comm 3988292384, Nat.xor_assoc, Nat.xor_self, Nat.xor_zero]
theorem sh_zero : sh 0 = 0 := by decide
theorem shn_zero : ∀ n, shn n 0 = 0
  | 0 => rfl
  | n + 1 => by rw [shn, sh_zero, shn_zero n]
theorem shn_xor : ∀ n x y, shn n (x ^^^ y) = shn n x ^^^ shn n y
  | 0, _, _ => rfl
  | n + 1, x, y => by rw [shn, sh_xor, shn_xor n]; rfl
theorem shn_add : ∀ m n x, shn (m + n) x = shn n (shn m x)
  | 0, n, x => by rw [Nat.zero_add]; rfl
  | m + 1, n, x => by rw [show m + 1 + n = (m + n) + 1 by omega, shn, shn_add m n]; rfl
theorem sh_dbl (x : Nat) : sh (2 * x) = x := by
  unfold sh
  have h1 : 2 * x / 2 = x := by omega
  have h2 : 2 * x % 2 = 0 := by omega
  rw [h1, h2]; simp
theorem shn_shl : ∀ n x, shn n (x * 2 ^ n) = x
  | 0, x => by simp [shn]
  | n + 1, x => by
    rw [shn, show x * 2 ^ (n + 1) = 2 * (x * 2 ^ n) by rw [Nat.pow_succ, ← Nat.mul_assoc]; exact Nat.mul_comm _ _, sh_dbl, shn_shl n]
theorem sh_lt {x : Nat} (h : x < 4294967296) : sh x < 4294967296 := by
  unfold sh
  exact Nat.xor_lt_two_pow (n := 32) (by omega) (by split <;> decide)
theorem shn_lt : ∀ n {x : Nat}, x < 4294967296 → shn n x < 4294967296
  | 0, _, h => h
  | n + 1, _, h => by rw [shn]; exact shn_lt n (sh_lt h)
theorem add_xor {a k : Nat} (b : Nat) (h : a < 2 ^ k) : a + b * 2 ^ k = a ^^^ (b * 2 ^ k) := by
  apply Nat.eq_of_testBit_eq
  intro j
  rw [Nat.add_comm, Nat.mul_comm, Nat.testBit_two_pow_mul_add _ h, Nat.testBit_xor, Nat.testBit_two_pow_mul]
  by_cases hj : j < k
  · simp [hj, show ¬ k ≤ j by omega]
  · have : a.testBit j = false := Nat.testBit_lt_two_pow (Nat.lt_of_lt_of_le h (Nat.pow_le_pow_right (by decide) (by omega)))
    simp [hj, this, show k ≤ j by omega]
theorem p256 (n : Nat) : 256 ^ n = 2 ^ (8 * n) := by rw [Nat.pow_mul]
theorem num_lt' {f : Nat → Nat} : ∀ n, (∀ j, j < n → f j < 256) → num 256 f n < 2 ^ (8 * n)
  | 0, _ => by simp [num]
  | n + 1, h => by
    have h1 := num_lt' n (fun j hj => h j (by omega))
    have h2 := h n (by omega)
    rw [num, p256, show 8 * (n + 1) = 8 * n + 8 by omega, Nat.pow_add]
    generalize 2 ^ (8 * n) = P at *
    have h3 : (f n + 1) * P ≤ 256 * P := Nat.mul_le_mul_right _ h2
    rw [Nat.add_mul, Nat.one_mul] at h3
    omega
theorem byte_xor {a b : Nat} (ha : a < 256) (hb : b < 256) : a ^^^ b < 256 := Nat.xor_lt_two_pow (n := 8) ha hb
/-- The sum's rows of bits behind n bytes. -/
def crcS (f : Nat → Nat) : Nat → Nat
  | 0 => 4294967295
  | n + 1 => shn 8 (crcS f n ^^^ f n)
def crcN (f : Nat → Nat) (n : Nat) : Nat := 4294967295 ^^^ crcS f n
theorem crcS_lt {f : Nat → Nat} : ∀ n, (∀ j, j < n → f j < 256) → crcS f n < 4294967296
  | 0, _ => by simp [crcS]
  | n + 1, h => shn_lt 8 (Nat.xor_lt_two_pow (n := 32) (crcS_lt n (fun j hj => h j (by omega))) (by have := h n (by omega); omega))
theorem crcN_lt {f : Nat → Nat} {n : Nat} (h : ∀ j, j < n → f j < 256) : crcN f n < 4294967296 := Nat.xor_lt_two_pow (n := 32) (by decide) (crcS_lt n h)
theorem crcN_congr {f g : Nat → Nat} {n : Nat} (h : ∀ j, j < n → f j = g j) : crcN f n = crcN g n := by
  unfold crcN
  congr 1
  induction n with
  | zero => rfl
  | succ n ih => rw [crcS, crcS, ih (fun j hj => h j (by omega)), h n (by omega)]
theorem crc_step (s c : Nat) : (s / 256) ^^^ shn 8 ((s % 256) ^^^ c) = shn 8 (s ^^^ c) := by
  have e : s = (s % 256) ^^^ (s / 256 * 2 ^ 8) := by
    rw [← add_xor (a := s % 256) (k := 8) (s / 256) (by omega)]
    omega
  have : shn 8 (s ^^^ c) = shn 8 ((s / 256 * 2 ^ 8) ^^^ ((s % 256) ^^^ c)) := by
    rw [← Nat.xor_assoc, Nat.xor_comm (s / 256 * 2 ^ 8), ← e]
  rw [this, shn_xor 8 (s / 256 * 2 ^ 8), shn_shl]
end Go.Proofs.Yteeomidlnijfbaa

/- Contracts: shift, fill of the sum's table. -/
namespace Go.Proofs.Yteeomidlnijfbaa
open Go.RowKit

theorem u32_and_one (x : Nat) (h : x < 4294967296) : bits BinOp.and IntKind.u32 (x : Int) 1 = ((x % 2 : Nat) : Int) := by
  have := u32_and_nat x 1 h (by decide)
  rw [Nat.and_one_is_mod] at this
  exact this
theorem u32_poly (x : Nat) (h : x < 4294967296) : bits BinOp.xor IntKind.u32 (x : Int) 3988292384 = ((x ^^^ 3988292384 : Nat) : Int) := u32_xor_nat x 3988292384 h (by decide)

set_option maxRecDepth 100000 in
set_option maxHeartbeats 400000 in
theorem shift_any (x : Nat) (w : World) (h : x < 4294967296) :
    Calls Try.prog 97 #[.int .u32 (x : Nat)] w fun e w' => e = .returned (.int .u32 (sh x : Nat)) ∧ w = w' := by
  have hb := u32_and_one x h
  have hx : bits BinOp.xor IntKind.u32 ((x : Int) / 2) 3988292384 = ((x / 2 ^^^ 3988292384 : Nat) : Int) := u32_poly (x / 2) (by omega)
  rcases Nat.mod_two_eq_zero_or_one x with h0 | h0
  · rw [h0] at hb
    have e : sh x = x / 2 := by unfold sh; rw [if_neg (by omega), Nat.xor_zero]
    have H0 := Lib.hid h0
    have HE := Lib.hid e
    clear h0 e
    go_enter Try.func97, Try.ntmps97
    go_wp2
    go_ret
    rw [HE.out]
    exact ⟨by simp, rfl⟩
  · rw [h0] at hb
    have e : sh x = x / 2 ^^^ 3988292384 := by unfold sh; rw [if_pos h0]
    have H0 := Lib.hid h0
    have HE := Lib.hid e
    clear h0 e
    go_enter Try.func97, Try.ntmps97
    go_wp2
    go_ret
    rw [HE.out]
    exact ⟨by simp, rfl⟩

end Go.Proofs.Yteeomidlnijfbaa

/- Contract: fill of the sum's table. -/
namespace Go.Proofs.Yteeomidlnijfbaa
open Go.RowKit

/-- 1, 2, .., 256. -/
def IsDbl (D : Nat) : Prop := D = 1 ∨ D = 2 ∨ D = 4 ∨ D = 8 ∨ D = 16 ∨ D = 32 ∨ D = 64 ∨ D = 128 ∨ D = 256
def Tab (f : Nat → Nat) (D : Nat) : Prop := ∀ j, j < 256 → j % D = 0 → f j = shn 8 j
def Tab2 (f : Nat → Nat) (D h : Nat) : Prop := Tab f D ∧ ∀ j, j < h → j % (D / 2) = 0 → f j = shn 8 j
def Sgl (x D : Nat) : Prop := x < 4294967296 ∧ (1 < D → sh x = shn 8 (D / 2))
theorem shn_sh (x : Nat) : sh (shn 8 x) = shn 8 (sh x) := by
  have h1 := shn_add 8 1 x
  have h2 := shn_add 1 8 x
  rw [show shn 1 (shn 8 x) = sh (shn 8 x) from rfl] at h1
  rw [show shn 1 x = sh x from rfl] at h2
  rw [← h1, ← h2]
theorem IsDbl.half {D : Nat} (h : IsDbl D) (h1 : 1 < D) : IsDbl (D / 2) := by
  unfold IsDbl at *
  omega
theorem Sgl.first : Sgl 1 256 := ⟨by decide, fun _ => by decide⟩
theorem Sgl.next {x D : Nat} (hd : IsDbl D) (h1 : 1 < D) (h : Sgl x D) : Sgl (sh x) (D / 2) := by
  refine ⟨sh_lt h.1, fun h2 => ?_⟩
  rw [h.2 h1, shn_sh]
  have : D / 2 = 2 * (D / 2 / 2) := by
    unfold IsDbl at hd
    omega
  rw [this, sh_dbl]
  congr 1
  omega
theorem Tab.first {f : Nat → Nat} (h : f 0 = 0) : Tab f 256 := fun j hj hm => by
  obtain rfl : j = 0 := by omega
  rw [h, shn_zero]
theorem Tab.second {f : Nat → Nat} {D : Nat} (h : Tab f D) : Tab2 f D 0 := ⟨h, fun j hj => absurd hj (by omega)⟩
theorem Tab2.last {f : Nat → Nat} {D h : Nat} (hh : 256 ≤ h) (ht : Tab2 f D h) : Tab f (D / 2) := fun j hj hm => ht.2 j (by omega) hm
theorem dbl_in {D h : Nat} (hd : IsDbl D) (h1 : 1 < D) (hh : h < 256) (hm : h % D = 0) : h + D / 2 < 256 ∧ h + D ≤ 256 ∧ (h + D) % D = 0 ∧ 0 < D / 2 ∧ 2 * (D / 2) = D := by
  refine ⟨?_, ?_, by rw [Nat.add_mod_right]; exact hm, by omega, ?_⟩
  all_goals (rcases hd with rfl | rfl | rfl | rfl | rfl | rfl | rfl | rfl | rfl <;> omega)
theorem Tab2.step {f : Nat → Nat} {D h x : Nat} (hd : IsDbl D) (h1 : 1 < D) (hh : h < 256) (hm : h % D = 0) (hx : x = shn 8 (D / 2)) (ht : Tab2 f D h) : Tab2 (upd f (h + D / 2) (f h ^^^ x)) D (h + D) := by
  have e : f h ^^^ x = shn 8 (h + D / 2) := by
    rw [ht.1 h hh hm, hx, ← shn_xor]
    congr 1
    have : ∃ k, D = 2 ^ k := by
      rcases hd with rfl | rfl | rfl | rfl | rfl | rfl | rfl | rfl | rfl
      · exact ⟨0, rfl⟩
      · exact ⟨1, rfl⟩
      · exact ⟨2, rfl⟩
      · exact ⟨3, rfl⟩
      · exact ⟨4, rfl⟩
      · exact ⟨5, rfl⟩
      · exact ⟨6, rfl⟩
      · exact ⟨7, rfl⟩
      · exact ⟨8, rfl⟩
    obtain ⟨k, hk⟩ := this
    have h2 := add_xor (a := D / 2) (k := k) (h / D) (by omega)
    rw [← hk] at h2
    have h3 : h / D * D = h := by have := Nat.div_add_mod h D; rw [hm, Nat.mul_comm] at this; omega
    rw [h3] at h2
    rw [Nat.xor_comm, ← h2, Nat.add_comm]
  constructor
  · intro j hj hj0
    have : j ≠ h + D / 2 := by
      rcases hd with rfl | rfl | rfl | rfl | rfl | rfl | rfl | rfl | rfl <;> omega
    rw [upd_ne _ _ _ this]
    exact ht.1 j hj hj0
  · intro j hj hj0
    by_cases hj2 : j = h + D / 2
    · subst hj2; rw [upd_same, e]
    · rw [upd_ne _ _ _ hj2]
      by_cases hlt : j < h
      · exact ht.2 j hlt hj0
      · have : j = h ∨ 256 ≤ j := by
          rcases hd with rfl | rfl | rfl | rfl | rfl | rfl | rfl | rfl | rfl <;> omega
        rcases this with rfl | hge
        · exact ht.1 j hh hm
        · rcases hd with rfl | rfl | rfl | rfl | rfl | rfl | rfl | rfl | rfl <;> omega
theorem Tab2.low {f : Nat → Nat} {D h : Nat} (hh : h < 256) (hm : h % D = 0) (ht : Tab2 f D h) : f h < 4294967296 := by
  rw [ht.1 h hh hm]
  exact shn_lt 8 (by omega)

def FillPost (w w' : World) (g : Nat) (e : Ending) : Prop :=
  e = .returned (.tuple #[]) ∧ Wr g w w' ∧ ∃ f, Row .u32 137 w' g 256 f ∧ ∀ j, j < 256 → f j = shn 8 j

set_option maxRecDepth 100000 in
set_option maxHeartbeats 1000000 in
theorem fill_any (g : Nat) (f : Nat → Nat) (w : World) (hr : Row .u32 137 w g 256 f) (h0 : f 0 = 0) :
    Calls Try.prog 93 #[.pointer (some ⟨g, 0, none⟩)] w fun e w' => FillPost w w' g e := by
  have HT0 := Lib.hid (Tab.first h0)
  clear h0
  go_enter Try.func93, Try.ntmps93
  go_wp2
  go_loopw [2, 3] (fun s b wr => ∃ (D x : Nat) (f : Nat → Nat), IsDbl D ∧ b = .int .i64 ((D / 2 : Nat) : Int) ∧ s = .int .u32 (x : Nat) ∧ Sgl x D ∧ Tab f D ∧ Row .u32 137 wr g 256 f ∧ Wr g w wr) (fun _ b _ => (intOf b).toNat)
  case atStart => exact ⟨256, 1, f, by unfold IsDbl; omega, rfl, rfl, Sgl.first, HT0.out, hr, Wr.refl⟩
  case round =>
    obtain ⟨D, x, f1, hd, rfl, rfl, hsg, htab, hr1, hw1⟩ := hrel
    have hD0 : 0 < D ∧ D ≤ 256 := by unfold IsDbl at hd; omega
    have HD := Lib.hid hd
    have HT := Lib.hid htab
    have HS := Lib.hid hsg
    have HR1 := Lib.hid hr1
    have HW1 := Lib.hid hw1
    have HR := Lib.hid hr
    clear hd htab hsg hr1 hw1 hr
    by_cases h1 : 1 < D
    · have hB : 0 < D / 2 := by omega
      have hB1 : D / 2 ≤ 128 := by omega
      generalize hBd : D / 2 = B at *
      have HB := Lib.hid hBd
      clear hBd
      go_wp2_with (go_at_call 97; refine (shift_any _ _ HS.out.1).mono ?_; rintro e w' ⟨rfl, rfl⟩)
      obtain ⟨wo, rfl⟩ : ∃ wo : World, wo = wr := ⟨_, rfl⟩
      go_loopw [4] (fun v wq => ∃ (h : Nat) (f2 : Nat → Nat), h ≤ 256 ∧ h % D = 0 ∧ v = .int .i64 (h : Nat) ∧ Tab2 f2 D h ∧ Row .u32 137 wq g 256 f2 ∧ Wr g wo wq) (fun v _ => 256 - (intOf v).toNat)
      case atStart => exact ⟨0, f1, Nat.zero_le _, Nat.zero_mod _, rfl, HT.out.second, HR1.out, Wr.refl⟩
      case round =>
        obtain ⟨h, f2, hh, hm, rfl, ht2, hr2, hw2⟩ := hrel
        by_cases hlt : h < 256
        · have hin := dbl_in HD.out h1 hlt hm
          rw [HB.out] at hin
          obtain ⟨i1, i2, i3, i4, i5⟩ := hin
          have hsx : sh x = shn 8 B := by rw [HS.out.2 h1, HB.out]
          have hst := Tab2.step (x := sh x) HD.out h1 hlt hm (by rw [HB.out]; exact hsx) ht2
          rw [HB.out] at hst
          have c1 : wr.cell? ⟨g, h, none⟩ = some (.int .u32 (f2 h : Nat)) := hr2.cell hlt
          have c2 : wr.cell? ⟨g, h + B, none⟩ = some (.int .u32 (f2 (h + B) : Nat)) := hr2.cell i1
          have c3 : wr.frozen? ⟨g, h + B, none⟩ = false := hr2.frozen _
          have hx : bits BinOp.xor IntKind.u32 (f2 h : Nat) (sh x : Nat) = ((f2 h ^^^ sh x : Nat) : Int) := u32_xor_nat _ _ (ht2.low hlt hm) (sh_lt HS.out.1)
          have hr3 := hr2.set_ (h + B) (f2 h ^^^ sh x)
          have hw3 := hw2.setCell (h + B) (.int .u32 ((f2 h ^^^ sh x : Nat) : Int))
          have b1 : (0 : Int) ≤ (h : Int) := by omega
          have b2 : (h : Int) < 256 := by omega
          have b3 : (0 : Int) ≤ (h : Int) + (B : Int) := by omega
          have b4 : (h : Int) + (B : Int) < 256 := by omega
          have b5 : ((h : Int) + (B : Int)).toNat = h + B := by omega
          have HST := Lib.hid hst
          have H3 := Lib.hid hr3
          have HW3 := Lib.hid hw3
          have HM := Lib.hid i3
          have HI5 := Lib.hid i5
          clear hm hst hr3 hw3 hsx ht2 i3 i5 hr2 hw2
          go_wp2
          go_region
          all_goals
            go_wp2
            go_roundw
            case rel => exact ⟨h + D, upd f2 (h + B) (f2 h ^^^ sh x), i2, HM.out, by have e5 := HI5.out; congr 1; omega, HST.out, H3.out.drew, HW3.out.drew⟩
            case measure => have e5 := HI5.out; simp [intOf]; omega
        · obtain rfl : h = 256 := by omega
          have HA := Lib.hid (show IsDbl B ∧ Sgl (sh x) B ∧ Tab f2 B from by
            have q1 := HD.out.half h1
            have q2 := HS.out.next HD.out h1
            have q3 := ht2.last (Nat.le_refl _)
            rw [HB.out] at q1 q2 q3
            exact ⟨q1, q2, q3⟩)
          have HR2 := Lib.hid hr2
          have HW2 := Lib.hid hw2
          clear hm ht2 hr2 hw2 hlt hh
          go_wp2
          go_roundw
          case rel => exact ⟨B, sh x, f2, HA.out.1, by go_num, rfl, HA.out.2.1, HA.out.2.2, HR2.out, HW1.out.trans HW2.out⟩
          case measure => simp [intOf]; omega
    · obtain rfl : D = 1 := by omega
      go_wp2
      go_end0
      exact ⟨rfl, HW1.out, f1, HR1.out, fun j hj => HT.out j hj (Nat.mod_one _)⟩
end Go.Proofs.Yteeomidlnijfbaa
