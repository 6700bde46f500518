/- Contracts: guess: the walk. -/
import Derived.Test.YtonjecddhbckgaaGu
namespace Go.Proofs.Ytonjecddhbckgaa
open Go.RowKit

theorem guFacts {n : Nat} {f h : Nat → Nat} (hn : 2 ≤ n) (hf : ∀ j, j < n + 1 → f j < 4294967296) (hh : ∀ j, j < n → h j < 4294967296) (hv : 2147483648 ≤ h (n - 1)) (hlt : num 4294967296 f (n + 1) < num 4294967296 h n * 4294967296) :
    GuFacts (f n * 4294967296 + f (n - 1)) (h (n - 1)) (h (n - 2)) (f (n - 2)) (num 4294967296 f (n + 1)) (num 4294967296 h n) (4294967296 ^ (n - 2)) := by
  obtain ⟨m, rfl⟩ : ∃ m, n = m + 2 := ⟨n - 2, by omega⟩
  simp only [Nat.add_sub_cancel, show m + 2 - 1 = m + 1 from by omega] at *
  have f0 := num_lt (B := 4294967296) (f := f) (by omega) m (fun j hj => hf j (by omega))
  have h0 := num_lt (B := 4294967296) (f := h) (by omega) m (fun j hj => hh j (by omega))
  have ef : num 4294967296 f (m + 2 + 1) = num 4294967296 f m + ((f (m + 2) * 4294967296 + f (m + 1)) * 4294967296 + f m) * 4294967296 ^ m := by
    have p1 : (4294967296 : Nat) ^ (m + 1) = 4294967296 ^ m * 4294967296 := Nat.pow_succ _ _
    have p2 : (4294967296 : Nat) ^ (m + 2) = 4294967296 ^ m * 4294967296 * 4294967296 := by rw [← p1]; exact Nat.pow_succ _ _
    rw [num_succ, num_succ, num_succ, p2, p1]
    clear p1 p2
    generalize 4294967296 ^ m = W
    rw [Nat.add_mul, Nat.add_mul, Nat.add_mul]
    have a1 : f (m + 2) * (W * 4294967296 * 4294967296) = f (m + 2) * 4294967296 * 4294967296 * W := by
      rw [Nat.mul_comm W, Nat.mul_assoc 4294967296 W, Nat.mul_comm W 4294967296, ← Nat.mul_assoc, ← Nat.mul_assoc]
    have a2 : f (m + 1) * (W * 4294967296) = f (m + 1) * 4294967296 * W := by rw [Nat.mul_comm W, ← Nat.mul_assoc]
    rw [a1, a2]
    omega
  have eh : num 4294967296 h (m + 2) = num 4294967296 h m + (h (m + 1) * 4294967296 + h m) * 4294967296 ^ m := by
    rw [num_succ, num_succ, Nat.pow_succ]
    generalize 4294967296 ^ m = W
    rw [Nat.add_mul]
    have a2 : h (m + 1) * (W * 4294967296) = h (m + 1) * 4294967296 * W := by rw [Nat.mul_comm W, ← Nat.mul_assoc]
    rw [a2]
    omega
  have b1 := hf (m + 2) (by omega)
  have b2 := hf (m + 1) (by omega)
  have b3 := hf m (by omega)
  have b4 := hh (m + 1) (by omega)
  have b5 := hh m (by omega)
  have hW : 0 < 4294967296 ^ m := Nat.pow_pos (by omega)
  generalize num 4294967296 f (m + 2 + 1) = R at *
  generalize num 4294967296 h (m + 2) = D at *
  generalize num 4294967296 f m = r0 at *
  generalize num 4294967296 h m = d0 at *
  generalize 4294967296 ^ m = W at *
  generalize f (m + 2) = u2 at *
  generalize f (m + 1) = u1 at *
  generalize f m = u0 at *
  generalize h (m + 1) = v1 at *
  generalize h m = v0 at *
  have hr1 : ((u2 * 4294967296 + u1) * 4294967296 + u0) * W ≤ R := by rw [ef]; exact Nat.le_add_left _ _
  have hd2 : D < (v1 * 4294967296 + v0 + 1) * W := by
    rw [eh, Nat.add_mul (v1 * 4294967296 + v0), Nat.one_mul, Nat.add_comm]
    exact Nat.add_lt_add_left h0 _
  have hDp : 0 < D := by
    rw [eh]
    have hv1p : 0 < v1 := Nat.lt_of_lt_of_le (by decide) hv
    exact Nat.lt_of_lt_of_le (Nat.mul_pos (Nat.lt_of_lt_of_le (Nat.mul_pos hv1p (by decide)) (Nat.le_add_right _ _)) hW) (Nat.le_add_left _ _)
  refine ⟨hr1, ?_, ?_, hd2, hDp, ?_, hv, b4, b5, b3, ?_⟩
  · rw [ef, Nat.add_mul ((u2 * 4294967296 + u1) * 4294967296 + u0), Nat.one_mul, Nat.add_comm]
    exact Nat.add_lt_add_left f0 _
  · rw [eh]; exact Nat.le_add_left _ _
  · rw [Nat.div_lt_iff_lt_mul hDp, Nat.mul_comm]; exact hlt
  · have h1 : ((u2 * 4294967296 + u1) * 4294967296 + u0) * W < (v1 * 4294967296 + v0 + 1) * 4294967296 * W := by
      refine Nat.lt_of_le_of_lt hr1 (Nat.lt_trans hlt ?_)
      have := Nat.mul_lt_mul_of_pos_right hd2 (show 0 < 4294967296 by omega)
      rw [Nat.mul_assoc, Nat.mul_comm W, ← Nat.mul_assoc] at this
      exact this
    have h2 := Nat.lt_of_mul_lt_mul_right h1
    clear h1 hr1 hd2 hDp hlt f0 h0 ef eh hW hf hh
    omega

/-- What guess leaves. -/
def GuPost (w w' : World) (e : Ending) (R D : Nat) : Prop := ∃ k, e = .returned (.int .u32 (k : Nat)) ∧ Guessed k R D ∧ ∃ nq, w' = w.drewN nq

set_option maxHeartbeats 2000000 in
theorem guess_core (A : Option Addr) (n c : Nat) (B : Option Addr) (d : Nat) (u2 u1 u0 v1 v0 R D W : Nat) (w : World) (hn : 2 ≤ n) (hn2 : n ≤ 8796093022208)
    (hA : ∃ ad, A = some ad ∧ w.cell? (ad.add n) = some (.int .u32 (u2 : Nat)) ∧ w.cell? (ad.add (n - 1)) = some (.int .u32 (u1 : Nat)) ∧ w.cell? (ad.add (n - 2)) = some (.int .u32 (u0 : Nat)))
    (hB : ∃ bd, B = some bd ∧ w.cell? (bd.add (n - 1)) = some (.int .u32 (v1 : Nat)) ∧ w.cell? (bd.add (n - 2)) = some (.int .u32 (v0 : Nat)))
    (F : GuFacts (u2 * 4294967296 + u1) v1 v0 u0 R D W) (hu2 : u2 < 4294967296) (hu1 : u1 < 4294967296) :
    Calls Try.prog 71 #[.slice A (n + 1) c, .slice B n d] w fun e w' => GuPost w w' e R D := by
  obtain ⟨ad, rfl, c2, c1, c0⟩ := hA
  obtain ⟨bd, rfl, e1, e0⟩ := hB
  have hor := or_shift32 u2 u1 hu2 hu1
  have hu0 := F.ul
  have hv1 := F.vl
  have hv1h := F.vh
  have hv0 := F.wl
  have HS := Lib.hid F.start
  have FF := Lib.hid F
  clear F
  obtain ⟨top, htop⟩ : ∃ top, top = u2 * 4294967296 + u1 := ⟨_, rfl⟩
  rw [← htop] at hor HS FF
  have hwu2 : IntKind.u64.wrap (u2 : Int) = (u2 : Int) := IntWalk.u64_in _ (by omega)
  have hwu1 : IntKind.u64.wrap (u1 : Int) = (u1 : Int) := IntWalk.u64_in _ (by omega)
  have hwv1 : IntKind.u64.wrap (v1 : Int) = (v1 : Int) := IntWalk.u64_in _ (by omega)
  have hwv0 : IntKind.u64.wrap (v0 : Int) = (v0 : Int) := IntWalk.u64_in _ (by omega)
  have hwt : IntKind.u64.wrap ((u2 : Int) * 4294967296) = (u2 : Int) * 4294967296 := IntWalk.u64_in _ (by omega)
  have hwn1 : IntKind.i64.wrap ((n : Int) - 1) = (n : Int) - 1 := IntWalk.i64_in _ (by omega)
  have hwn2 : IntKind.i64.wrap ((n : Int) - 2) = (n : Int) - 2 := IntWalk.i64_in _ (by omega)
  have hi1 : (0 : Int) ≤ (n : Int) - 1 := by omega
  have hi2 : (0 : Int) ≤ (n : Int) - 2 := by omega
  have ht1 : ((n : Int) - 1).toNat = n - 1 := by omega
  have ht2 : ((n : Int) - 2).toNat = n - 2 := by omega
  clear htop
  go_enter Try.func71, Try.ntmps71
  go_wp2
  go_quiet (fail)
  have c0' : (w.drewN nq).cell? (ad.add (n - 2)) = some (.int .u32 (u0 : Nat)) := c0
  have HD : Hid (∃ q, w.drewN nq = w.drewN q) := ⟨nq, rfl⟩
  generalize w.drewN nq = w2 at *
  have htp : top < 18446744073709551616 := by
    have h1 := FF.out.tl
    have h2 := FF.out.vl
    clear hor c0 c1 c2 c0' e0 e1
    omega
  have hq0 := HS.out.kl
  have hr0 : top % v1 < v1 := Nat.mod_lt _ (by omega)
  have g1 : (top : Int) / (v1 : Int) = ((top / v1 : Nat) : Int) := rfl
  have g2 : (top : Int) % (v1 : Int) = ((top % v1 : Nat) : Int) := rfl
  generalize top / v1 = k0 at *
  generalize top % v1 = r0 at *
  have HTP := Lib.hid htp
  clear hor c0 c1 c2 e0 e1 hwt htp
  have HG2 := Lib.hid g2
  go_wp2
  clear g1 g2
  go_loop [9, 10] (fun v9 v10 => ∃ k r, v9 = .int .u64 (k : Nat) ∧ v10 = .int .u64 (r : Nat) ∧ GuInv k r top v1 v0 u0 R D) (fun v9 _ => (intOf v9).toNat)
  case atStart => exact ⟨k0, r0, rfl, by first | rw [HG2.out] | rfl, HS.out⟩
  case round =>
    obtain ⟨k, r, rfl, rfl, hi⟩ := hrel
    clear HS hq0 hr0
    have hk := hi.kl
    have hr := hi.rl
    have HI := Lib.hid hi
    clear hi
    by_cases hkh : 4294967296 ≤ k
    · have g3 : ((k : Int) / 4294967296 != 0) = true := by rw [bne_iff_ne]; omega
      have HQ := Lib.hid (GuInv.high FF.out hkh)
      have hk1 : 1 ≤ k := by omega
      by_cases hbr : 4294967296 ≤ r + v1
      · have g5 : (((r : Int) + (v1 : Int)) / 4294967296 != 0) = true := by rw [bne_iff_ne]; omega
        have HGD := Lib.hid (HI.out.broken FF.out hk1 HQ.out hbr)
        have hkl : k - 1 < 4294967296 := HGD.out.2.2
        clear HI
        go_wp2
        go_ret
        exact ⟨k - 1, by rw [show ((k - 1 : Nat) : Int) = (k : Int) - 1 from by omega]; rfl, HGD.out, HD.out⟩
      · have g5 : (((r : Int) + (v1 : Int)) / 4294967296 != 0) = false := by rw [bne_eq_false_iff_eq]; omega
        have HN := Lib.hid (HI.out.next hk1 HQ.out (by omega))
        clear HI
        go_wp2
        go_round
        case rel => exact ⟨k - 1, r + v1, by go_num, by go_num, HN.out⟩
        case measure => simp [intOf]; omega
    · have g3 : ((k : Int) / 4294967296 != 0) = false := by rw [bne_eq_false_iff_eq]; omega
      have hkl32 : k < 4294967296 := by omega
      have hor2 := or_shift32 r u0 hr hu0
      have p1 := mul_int_32 hkl32 hv0
      have p0 := mul_int_0 k v0
      obtain ⟨Z, hZ⟩ : ∃ Z, Z = r * 4294967296 + u0 := ⟨_, rfl⟩
      rw [← hZ] at hor2
      by_cases hgt : Z < k * v0
      · have g4 : (Z : Int) < (k : Int) * (v0 : Int) := by rw [← Int.natCast_mul]; exact Int.ofNat_lt.2 hgt
        have HQ := Lib.hid (HI.out.low FF.out (by rw [← hZ]; exact hgt))
        have hk1 : 1 ≤ k := GuInv.pos_low (rest := r) (u0 := u0) (v0 := v0) (by rw [← hZ]; exact hgt)
        clear hZ hgt
        by_cases hbr : 4294967296 ≤ r + v1
        · have g5 : (((r : Int) + (v1 : Int)) / 4294967296 != 0) = true := by rw [bne_iff_ne]; omega
          have HGD := Lib.hid (HI.out.broken FF.out hk1 HQ.out hbr)
          have hkl : k - 1 < 4294967296 := HGD.out.2.2
          clear HI
          go_wp2
          go_ret
          exact ⟨k - 1, by rw [show ((k - 1 : Nat) : Int) = (k : Int) - 1 from by omega]; rfl, HGD.out, HD.out⟩
        · have g5 : (((r : Int) + (v1 : Int)) / 4294967296 != 0) = false := by rw [bne_eq_false_iff_eq]; omega
          have HN := Lib.hid (HI.out.next hk1 HQ.out (by omega))
          clear HI
          go_wp2
          go_round
          case rel => exact ⟨k - 1, r + v1, by go_num, by go_num, HN.out⟩
          case measure => simp [intOf]; omega
      · have g4 : (k : Int) * (v0 : Int) ≤ (Z : Int) := by rw [← Int.natCast_mul]; exact Int.ofNat_le.2 (by omega)
        have HGD := Lib.hid (HI.out.done FF.out hkl32 (by rw [← hZ]; omega))
        clear HI hZ hgt
        go_wp2
        go_ret
        exact ⟨k, rfl, HGD.out, HD.out⟩
end Go.Proofs.Ytonjecddhbckgaa
