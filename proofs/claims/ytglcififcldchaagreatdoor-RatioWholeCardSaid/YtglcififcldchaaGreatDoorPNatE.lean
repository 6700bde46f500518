/- Merged of Rf,Ba,Bb,Rg,Rh,Gd,Kp. -/
import Derived.Test.YtglcififcldchaaGreatDoorPNatCb
import Derived.Test.YtglcififcldchaaGreatDoorPNatBb
import Derived.Test.YtglcififcldchaaGreatDoorPNatA
import Derived.Test.YtglcififcldchaaGreatDoorPNatD
import Derived.Deep.RegionWith

/- Contracts of the document's own answers: Cmp, Add, Sub, Mul, Trim. -/
namespace Go.Proofs.YtglcififcldchaaGreatDoor
open Go.RowKit

section
variable {k m : Nat} {w : World} {v1 v2 : Value} {N M : Nat}
theorem lim_digits (h1 : Lim k w v1 N) (hk : k ≤ 1000000) : Calls Tryz.prog 94 #[v1] w fun e w' => DigPost w w' e N := by
  obtain ⟨A, n, c, f, rfl, a1, a2, a3, a4, rfl⟩ := h1
  exact digits_any A n c f w a2 a1 (by omega) a3
theorem dig_add (h1 : IsDig w v1 N) (h2 : IsDig w v2 M) (hN : N < 256 ^ k) (hM : M < 256 ^ m) (hk : k ≤ 1000000000) (hm : m ≤ 1000000000) : Calls Tryz.prog 112 #[v1, v2] w fun e w' => DigPost w w' e (N + M) := by
  obtain ⟨A, n, c, f, rfl, a2, _, a4, a5, a6, rfl⟩ := h1
  obtain ⟨B, l, d, h, rfl, b2, _, b4, b5, b6, rfl⟩ := h2
  have hn : n ≤ k := a6.len (B := 256) (by omega) hN
  have hl : l ≤ m := b6.len (B := 256) (by omega) hM
  exact radd_any A n c f B l d h w a4 (by omega) a5 b4 (by omega) b5
theorem dig_mul (h1 : IsDig w v1 N) (h2 : IsDig w v2 M) (hN : N < 256 ^ k) (hM : M < 256 ^ m) (hk : k ≤ 1000000000) (hm : m ≤ 1000000000) : Calls Tryz.prog 113 #[v1, v2] w fun e w' => DigPost w w' e (N * M) := by
  obtain ⟨A, n, c, f, rfl, a2, _, a4, a5, a6, rfl⟩ := h1
  obtain ⟨B, l, d, h, rfl, b2, _, b4, b5, b6, rfl⟩ := h2
  have hn : n ≤ k := a6.len (B := 256) (by omega) hN
  have hl : l ≤ m := b6.len (B := 256) (by omega) hM
  exact rmul_any A n c f B l d h w a4 (by omega) a5 b4 (by omega) b5
set_option maxHeartbeats 1000000 in
theorem rAdd (h1 : Lim k w v1 N) (h2 : Lim m w v2 M) (hk : k ≤ 1000000) (hm : m ≤ 1000000) : Calls Tryz.prog 89 #[v1, v2] w fun e w' => NatPost w w' e (N + M) := by
  have hN := h1.lt
  have hM := h2.lt
  have hNM := lt_add hN hM (k + m + 1) (by omega) (by omega)
  rw [pow_limb] at hN hM hNM
  have D1 := Lib.hid (lim_digits h1 hk)
  have D2 := Lib.hid (fun wq (h : Lim m wq v2 M) => lim_digits h hm)
  have L2 := Lib.hid h2
  have HN := Lib.hid hN
  have HM := Lib.hid hM
  have HNM := Lib.hid hNM
  clear h1 h2 hN hM hNM
  go_enter Tryz.func89, Tryz.ntmps89
  go_wp2_with fail
  refine D1.out.mono ?_
  rintro e w1 ⟨d1, rfl, hd1, hb1⟩
  go_wp2_with fail
  refine (D2.out _ (L2.out.below hb1)).mono ?_
  rintro e w2 ⟨d2, rfl, hd2, hb2⟩
  go_wp2_with fail
  refine (dig_add (hd1.below hb2) hd2 HN.out HM.out (by omega) (by omega)).mono ?_
  rintro e w3 ⟨d3, rfl, hd3, hb3⟩
  go_wp2_with fail
  refine (hd3.limbs HNM.out (by omega)).mono ?_
  rintro e w4 ⟨v4, rfl, hv4, hb4⟩
  go_wp2
  go_ret
  exact ⟨_, rfl, hv4, below_trans (below_trans (below_trans hb1 hb2) hb3) hb4⟩

set_option maxHeartbeats 1000000 in
theorem rMul (h1 : Lim k w v1 N) (h2 : Lim m w v2 M) (hk : k ≤ 1000000) (hm : m ≤ 1000000) : Calls Tryz.prog 90 #[v1, v2] w fun e w' => NatPost w w' e (N * M) := by
  have hN := h1.lt
  have hM := h2.lt
  have hNM := lt_mul hN hM (k + m) (by omega)
  rw [pow_limb] at hN hM hNM
  have D1 := Lib.hid (lim_digits h1 hk)
  have D2 := Lib.hid (fun wq (h : Lim m wq v2 M) => lim_digits h hm)
  have L2 := Lib.hid h2
  have HN := Lib.hid hN
  have HM := Lib.hid hM
  have HNM := Lib.hid hNM
  clear h1 h2 hN hM hNM
  go_enter Tryz.func90, Tryz.ntmps90
  go_wp2_with fail
  refine D1.out.mono ?_
  rintro e w1 ⟨d1, rfl, hd1, hb1⟩
  go_wp2_with fail
  refine (D2.out _ (L2.out.below hb1)).mono ?_
  rintro e w2 ⟨d2, rfl, hd2, hb2⟩
  go_wp2_with fail
  refine (dig_mul (hd1.below hb2) hd2 HN.out HM.out (by omega) (by omega)).mono ?_
  rintro e w3 ⟨d3, rfl, hd3, hb3⟩
  go_wp2_with fail
  refine (hd3.limbs HNM.out (by omega)).mono ?_
  rintro e w4 ⟨v4, rfl, hv4, hb4⟩
  go_wp2
  go_ret
  exact ⟨_, rfl, hv4, below_trans (below_trans (below_trans hb1 hb2) hb3) hb4⟩

end
end Go.Proofs.YtglcififcldchaaGreatDoor

/- Contracts: putLeast. -/
namespace Go.Proofs.YtglcififcldchaaGreatDoor
open Go.RowKit

end Go.Proofs.YtglcififcldchaaGreatDoor

/- Contracts: Bytes. -/
namespace Go.Proofs.YtglcififcldchaaGreatDoor
open Go.RowKit

end Go.Proofs.YtglcififcldchaaGreatDoor

/- The document's own division: what its loops hold. -/
namespace Go.Proofs.YtglcififcldchaaGreatDoor
open Go.RowKit

end Go.Proofs.YtglcififcldchaaGreatDoor

/- Contracts of the document's own answers: Div, Gcd. -/
namespace Go.Proofs.YtglcififcldchaaGreatDoor
open Go.RowKit

section
variable {k m : Nat} {w : World} {v1 v2 : Value} {N M : Nat}
theorem gcd_turn (X Y : Nat) : Nat.gcd Y (X % Y) = Nat.gcd X Y := by
  rw [Nat.gcd_comm X Y, Nat.gcd_rec Y X, Nat.gcd_comm]

end
end Go.Proofs.YtglcififcldchaaGreatDoor

/- Contracts: gcdWord. -/
namespace Go.Proofs.YtglcififcldchaaGreatDoor
open Go.RowKit

set_option maxHeartbeats 1000000 in
theorem gcdWord_any (x y : Nat) (w : World) (hx : (x : Int) ≤ 18446744073709551615) (hy : (y : Int) ≤ 18446744073709551615) :
    Calls Tryz.prog 126 #[.int .u64 (x : Nat), .int .u64 (y : Nat)] w fun e w' => e = .returned (.int .u64 (Nat.gcd x y : Nat)) ∧ Below w.heap.size w w' := by
  go_enter Tryz.func126, Tryz.ntmps126
  go_wp2
  go_loopw [0, 1] (fun v0 v1 wr => ∃ X Y : Nat, v0 = .int .u64 (X : Nat) ∧ v1 = .int .u64 (Y : Nat) ∧ (X : Int) ≤ 18446744073709551615 ∧ (Y : Int) ≤ 18446744073709551615 ∧ Nat.gcd X Y = Nat.gcd x y ∧ Below w.heap.size w wr) (fun _ v1 _ => (intOf v1).toNat)
  case atStart => exact ⟨x, y, rfl, rfl, hx, hy, rfl, Below.refl _ _⟩
  case round =>
    obtain ⟨X, Y, rfl, rfl, h1, h2, h3, hbl⟩ := hrel
    have H3 := Lib.hid h3
    clear h3
    by_cases h0 : Y = 0
    · subst h0
      go_wp2
      go_ret
      exact ⟨by rw [← H3.out, Nat.gcd_zero_right]; rfl, hbl⟩
    · have hg : ((Y : Int) == 0) = false := by rw [beq_eq_false_iff_ne]; omega
      have hg2 : ((Y : Int) != 0) = true := by rw [bne_iff_ne]; omega
      have hm : X % Y < Y := Nat.mod_lt _ (by omega)
      have hmi : ((X : Int) % (Y : Int)) = ((X % Y : Nat) : Int) := by rw [Int.natCast_emod]
      have HT : Hid (Nat.gcd Y (X % Y) = Nat.gcd x y) := by show _ = _; rw [gcd_turn]; exact H3.out
      have hmt : Int.tmod (X : Int) (Y : Int) = ((X % Y : Nat) : Int) := rfl
      have hw : IntKind.u64.wrap ((X % Y : Nat) : Int) = ((X % Y : Nat) : Int) := IntWalk.u64_in _ (by omega)
      generalize X % Y = r at *
      go_wp2
      go_quiet (fail)
      go_wp2
      go_roundw
      case rel => exact ⟨Y, r, rfl, (by first | rfl | go_num), h2, by omega, HT.out, Below.drewN_ hbl _⟩
      case measure => simp [intOf]; omega
end Go.Proofs.YtglcififcldchaaGreatDoor

/- What stays of digits while memory is made: laws that a walk uses whatever the order. -/
namespace Go.Proofs.YtglcififcldchaaGreatDoor
open Go.RowKit

theorem Below.alloc_ {B : Nat} {a w : World} (h : Below B a w) (hB : B ≤ w.heap.size) (o : Obj) : Below B a (w.alloc o) := h.alloc hB o
end Go.Proofs.YtglcififcldchaaGreatDoor
