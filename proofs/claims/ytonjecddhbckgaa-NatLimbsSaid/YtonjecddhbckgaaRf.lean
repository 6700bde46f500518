/- Contracts of the document's own answers: Cmp, Add, Sub, Mul, Trim. -/
import Derived.Test.YtonjecddhbckgaaRe
import Derived.Test.YtonjecddhbckgaaSf
namespace Go.Proofs.Ytonjecddhbckgaa
open Go.RowKit

theorem dlt_le {k N q : Nat} (h : N < 256 ^ k) (hq : k ≤ q) : N < 256 ^ q := Nat.lt_of_lt_of_le h (Nat.pow_le_pow_right (by omega) hq)

section
variable {k m : Nat} {w : World} {v1 v2 : Value} {N M : Nat}
theorem lim_rtr (h1 : Lim k w v1 N) (hk : k ≤ 1000000) : Calls Try.prog 17 #[v1] w fun e w' => NatPost w w' e N := by
  obtain ⟨A, n, c, f, rfl, a1, a2, a3, a4, rfl⟩ := h1
  exact rtrim_any A n c f w a2 a1 (by omega) a3
theorem lim_digits (h1 : Lim k w v1 N) (hk : k ≤ 1000000) : Calls Try.prog 41 #[v1] w fun e w' => DigPost w w' e N := by
  obtain ⟨A, n, c, f, rfl, a1, a2, a3, a4, rfl⟩ := h1
  exact digits_any A n c f w a2 a1 (by omega) a3
theorem dig_cmp (h1 : IsDig w v1 N) (h2 : IsDig w v2 M) (hN : N < 256 ^ k) (hM : M < 256 ^ m) (hk : k ≤ 1000000000) (hm : m ≤ 1000000000) : Calls Try.prog 43 #[v1, v2] w fun e w' => e = .returned (.int .i64 (cmpN N M)) ∧ w' = w := by
  obtain ⟨A, n, c, f, rfl, a2, _, a4, a5, a6, rfl⟩ := h1
  obtain ⟨B, l, d, h, rfl, b2, _, b4, b5, b6, rfl⟩ := h2
  have hn : n ≤ k := a6.len (B := 256) (by omega) hN
  have hl : l ≤ m := b6.len (B := 256) (by omega) hM
  exact rcmp_any A n c f B l d h w a4 (by omega) a5 b4 (by omega) b5
theorem dig_add (h1 : IsDig w v1 N) (h2 : IsDig w v2 M) (hN : N < 256 ^ k) (hM : M < 256 ^ m) (hk : k ≤ 1000000000) (hm : m ≤ 1000000000) : Calls Try.prog 45 #[v1, v2] w fun e w' => DigPost w w' e (N + M) := by
  obtain ⟨A, n, c, f, rfl, a2, _, a4, a5, a6, rfl⟩ := h1
  obtain ⟨B, l, d, h, rfl, b2, _, b4, b5, b6, rfl⟩ := h2
  have hn : n ≤ k := a6.len (B := 256) (by omega) hN
  have hl : l ≤ m := b6.len (B := 256) (by omega) hM
  exact radd_any A n c f B l d h w a4 (by omega) a5 b4 (by omega) b5
theorem dig_mul (h1 : IsDig w v1 N) (h2 : IsDig w v2 M) (hN : N < 256 ^ k) (hM : M < 256 ^ m) (hk : k ≤ 1000000000) (hm : m ≤ 1000000000) : Calls Try.prog 47 #[v1, v2] w fun e w' => DigPost w w' e (N * M) := by
  obtain ⟨A, n, c, f, rfl, a2, _, a4, a5, a6, rfl⟩ := h1
  obtain ⟨B, l, d, h, rfl, b2, _, b4, b5, b6, rfl⟩ := h2
  have hn : n ≤ k := a6.len (B := 256) (by omega) hN
  have hl : l ≤ m := b6.len (B := 256) (by omega) hM
  exact rmul_any A n c f B l d h w a4 (by omega) a5 b4 (by omega) b5
theorem dig_sub (h1 : IsDig w v1 N) (h2 : IsDig w v2 M) (hN : N < 256 ^ k) (hk : k ≤ 1000000000) (hle : M ≤ N) : Calls Try.prog 40 #[v1, v2] w fun e w' => DigPost w w' e (N - M) := by
  obtain ⟨A, n, c, f, rfl, a2, _, a4, a5, a6, rfl⟩ := h1
  obtain ⟨B, l, d, h, rfl, b2, _, b4, b5, b6, rfl⟩ := h2
  have hn : n ≤ k := a6.len (B := 256) (by omega) hN
  have hl : l ≤ n := b6.len (B := 256) (by omega) (Nat.lt_of_le_of_lt hle (num_lt (by omega) n a5))
  exact rsub_any A n c f B l d h w a4 (by omega) a5 b4 b5 hl hle

set_option maxHeartbeats 1000000 in
theorem rCmp (h1 : Lim k w v1 N) (h2 : Lim m w v2 M) (hk : k ≤ 1000000) (hm : m ≤ 1000000) : Calls Try.prog 19 #[v1, v2] w fun e w' => CmpPost w w' e N M := by
  have hN := h1.lt
  have hM := h2.lt
  rw [pow_limb] at hN hM
  have D1 := Lib.hid (lim_digits h1 hk)
  have D2 := Lib.hid (fun wq (h : Lim m wq v2 M) => lim_digits h hm)
  have L2 := Lib.hid h2
  have HN := Lib.hid hN
  have HM := Lib.hid hM
  clear h1 h2 hN hM
  go_enter Try.func19, Try.ntmps19
  go_wp2_with fail
  refine D1.out.mono ?_
  rintro e w1 ⟨d1, rfl, hd1, hb1⟩
  go_wp2_with fail
  refine (D2.out _ (L2.out.below hb1)).mono ?_
  rintro e w2 ⟨d2, rfl, hd2, hb2⟩
  go_wp2_with fail
  refine (dig_cmp (hd1.below hb2) hd2 HN.out HM.out (by omega) (by omega)).mono ?_
  rintro e w3 ⟨rfl, hw⟩
  subst w3
  go_wp2
  go_ret
  exact ⟨rfl, below_trans hb1 hb2⟩

set_option maxHeartbeats 1000000 in
theorem rAdd (h1 : Lim k w v1 N) (h2 : Lim m w v2 M) (hk : k ≤ 1000000) (hm : m ≤ 1000000) : Calls Try.prog 21 #[v1, v2] w fun e w' => NatPost w w' e (N + M) := by
  have hN := h1.lt
  have hM := h2.lt
  have hNM := lt_add hN hM (k + m + 1) (by omega) (by omega)
  rw [pow_limb] at hN hM hNM
  have D1 := Lib.hid (lim_digits h1 hk)
  have D2 := Lib.hid (fun wq (h : Lim m wq v2 M) => lim_digits h hm)
  have L2 := Lib.hid h2
  have HN := Lib.hid hN
  have HM := Lib.hid hM
  have HNM := Lib.hid hNM
  clear h1 h2 hN hM hNM
  go_enter Try.func21, Try.ntmps21
  go_wp2_with fail
  refine D1.out.mono ?_
  rintro e w1 ⟨d1, rfl, hd1, hb1⟩
  go_wp2_with fail
  refine (D2.out _ (L2.out.below hb1)).mono ?_
  rintro e w2 ⟨d2, rfl, hd2, hb2⟩
  go_wp2_with fail
  refine (dig_add (hd1.below hb2) hd2 HN.out HM.out (by omega) (by omega)).mono ?_
  rintro e w3 ⟨d3, rfl, hd3, hb3⟩
  go_wp2_with fail
  refine (hd3.limbs HNM.out (by omega)).mono ?_
  rintro e w4 ⟨v4, rfl, hv4, hb4⟩
  go_wp2
  go_ret
  exact ⟨_, rfl, hv4, below_trans (below_trans (below_trans hb1 hb2) hb3) hb4⟩

set_option maxHeartbeats 1000000 in
theorem rMul (h1 : Lim k w v1 N) (h2 : Lim m w v2 M) (hk : k ≤ 1000000) (hm : m ≤ 1000000) : Calls Try.prog 23 #[v1, v2] w fun e w' => NatPost w w' e (N * M) := by
  have hN := h1.lt
  have hM := h2.lt
  have hNM := lt_mul hN hM (k + m) (by omega)
  rw [pow_limb] at hN hM hNM
  have D1 := Lib.hid (lim_digits h1 hk)
  have D2 := Lib.hid (fun wq (h : Lim m wq v2 M) => lim_digits h hm)
  have L2 := Lib.hid h2
  have HN := Lib.hid hN
  have HM := Lib.hid hM
  have HNM := Lib.hid hNM
  clear h1 h2 hN hM hNM
  go_enter Try.func23, Try.ntmps23
  go_wp2_with fail
  refine D1.out.mono ?_
  rintro e w1 ⟨d1, rfl, hd1, hb1⟩
  go_wp2_with fail
  refine (D2.out _ (L2.out.below hb1)).mono ?_
  rintro e w2 ⟨d2, rfl, hd2, hb2⟩
  go_wp2_with fail
  refine (dig_mul (hd1.below hb2) hd2 HN.out HM.out (by omega) (by omega)).mono ?_
  rintro e w3 ⟨d3, rfl, hd3, hb3⟩
  go_wp2_with fail
  refine (hd3.limbs HNM.out (by omega)).mono ?_
  rintro e w4 ⟨v4, rfl, hv4, hb4⟩
  go_wp2
  go_ret
  exact ⟨_, rfl, hv4, below_trans (below_trans (below_trans hb1 hb2) hb3) hb4⟩

set_option maxHeartbeats 1000000 in
theorem rSub_no (h1 : Lim k w v1 N) (h2 : Lim m w v2 M) (hk : k ≤ 1000000) (hm : m ≤ 1000000) (hlt : N < M) : Calls Try.prog 14 #[v1, v2] w fun e w' => SubNo w w' e := by
  have C := rCmp h1 h2 hk hm
  unfold CmpPost at C
  rw [cmpN_lt hlt] at C
  have D := Lib.hid C
  clear C h1 h2
  go_enter Try.func14, Try.ntmps14
  go_wp2_with fail
  refine D.out.mono ?_
  rintro e w1 ⟨rfl, hb1⟩
  go_wp2
  go_ret2
  exact ⟨_, rfl, isNat_nil _, hb1⟩

set_option maxHeartbeats 1000000 in
theorem rSub_yes (h1 : Lim k w v1 N) (h2 : Lim m w v2 M) (hk : k ≤ 1000000) (hm : m ≤ 1000000) (hle : M ≤ N) : Calls Try.prog 14 #[v1, v2] w fun e w' => SubYes w w' e N M := by
  have hN := h1.lt
  have C := rCmp h1 h2 hk hm
  unfold CmpPost at C
  obtain ⟨r, hr, hr0⟩ : ∃ r, cmpN N M = r ∧ 0 ≤ r := ⟨_, rfl, by unfold cmpN; rw [if_neg (by omega)]; split <;> omega⟩
  rw [hr] at C
  rw [pow_limb] at hN
  have D := Lib.hid C
  have D1 := Lib.hid (fun wq (h : Lim k wq v1 N) => lim_digits h hk)
  have D2 := Lib.hid (fun wq (h : Lim m wq v2 M) => lim_digits h hm)
  have L1 := Lib.hid h1
  have L2 := Lib.hid h2
  have HN := Lib.hid hN
  have HNM : Hid (N - M < 256 ^ (4 * k)) := Nat.lt_of_le_of_lt (Nat.sub_le _ _) hN
  clear h1 h2 hN C hr
  go_enter Try.func14, Try.ntmps14
  go_wp2_with fail
  refine D.out.mono ?_
  rintro e w1 ⟨rfl, hb1⟩
  go_wp2_with fail
  refine (D1.out _ (L1.out.below hb1)).mono ?_
  rintro e w2 ⟨d2, rfl, hd2, hb2⟩
  have hb12 := below_trans hb1 hb2
  go_wp2_with fail
  refine (D2.out _ (L2.out.below hb12)).mono ?_
  rintro e w3 ⟨d3, rfl, hd3, hb3⟩
  go_wp2_with fail
  refine (dig_sub (hd2.below hb3) hd3 HN.out (by omega) hle).mono ?_
  rintro e w4 ⟨d4, rfl, hd4, hb4⟩
  go_wp2_with fail
  refine (hd4.limbs HNM.out (by omega)).mono ?_
  rintro e w5 ⟨v5, rfl, hv5, hb5⟩
  go_wp2
  go_ret2
  exact ⟨_, rfl, hv5, below_trans (below_trans (below_trans hb12 hb3) hb4) hb5⟩
end
end Go.Proofs.Ytonjecddhbckgaa
