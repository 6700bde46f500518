/- Contract: Alike, of images of one disk. -/
import Derived.Test.YtldbnlmimjamnaaDp
namespace Go.Proofs.Ytldbnlmimjamnaa
open Go.RowKit

theorem seco_both {R R' : Nat → Prop} {w : World} {u v : Value} {s t : Option (Nat → Nat)} (hu : SecO R w u s) (hv : SecO R' w v t) (hst : SameO s t) :
    ∃ A c B d m f, u = .slice A m c ∧ v = .slice B m d ∧ m ≤ 64 ∧ Rd .u8 w A m f ∧ Rd .u8 w B m f := by
  cases s with
  | none =>
    cases t with
    | none => exact ⟨none, 0, none, 0, 0, fun _ => 0, hu, hv, by omega, Rd.zero, Rd.zero⟩
    | some g => exact hst.elim
  | some f =>
    cases t with
    | none => exact hst.elim
    | some g =>
      obtain ⟨g1, o1, c1, rfl, _, _, hr1, _⟩ := Sec.rd hu
      obtain ⟨g2, o2, c2, rfl, _, _, hr2, _⟩ := Sec.rd hv
      exact ⟨_, c1, _, c2, 64, f, rfl, rfl, Nat.le_refl _, hr1, hr2.congr fun j hj => (hst j hj).symm⟩
set_option maxHeartbeats 2000000 in
theorem alike_yes {G G' : Nat → Prop} {w : World} {u v : Value} {n : Nat} {T U : Nat → Option (Nat → Nat)} (hu : Img G w u n T) (hv : Img G' w v n U) (hn : n ≤ 512) (hTU : ∀ i, i < n → SameO (T i) (U i)) :
    Calls Try.prog 15 #[u, v] w fun e w' => e = .returned (.bool true) ∧ Below w.heap.size w w' := by
  obtain ⟨ga, ca, VA, rfl, hca, _, hga, hra, hsa⟩ := hu
  obtain ⟨gb, cb, VB, rfl, hcb, _, hgb, hrb, hsb⟩ := hv
  have HRA := Lib.hid hra
  have HRB := Lib.hid hrb
  have HSB := Lib.hid (fun i hi => seco_both (hsa i hi) (hsb i hi) (hTU i hi))
  clear hra hrb hsa hsb hTU
  go_enter Try.func15, Try.ntmps15
  go_wp2
  go_loopw [5] (fun x wr => ∃ k : Nat, k ≤ n ∧ x = .int .i64 k ∧ Below w.heap.size w wr) (fun x _ => n - (intOf x).toNat)
  case atStart => exact ⟨0, Nat.zero_le _, rfl, Below.refl _ _⟩
  case round =>
    obtain ⟨k, hk, rfl, hbl⟩ := hrel
    have HBL := Lib.hid hbl
    by_cases hlt : k < n
    · obtain ⟨A, c, B, d, m, f, e1, e2, hm, hr1, hr2⟩ := HSB.out k hlt
      have HR1 := Lib.hid (hr1.below hbl)
      have HR2 := Lib.hid (hr2.below hbl)
      have z1 := (HRA.out.of_block (hbl.block ga hga)).cell (i := k) (by omega)
      have z2 := (HRB.out.of_block (hbl.block gb hgb)).cell (i := k) (by omega)
      rw [e1] at z1
      rw [e2] at z2
      clear e1 e2 hr1 hr2 hbl
      have i0 : (0 : Int) ≤ (k : Int) := by omega
      have i1 : (k : Int) < (n : Int) := by omega
      go_wp2
      go_quiet (fail)
      go_wp2
      go_loopw [6] (fun x wq => ∃ j : Nat, j ≤ m ∧ x = .int .i64 j ∧ Below wr.heap.size wr wq) (fun x _ => m - (intOf x).toNat)
      case atStart => exact ⟨0, Nat.zero_le _, rfl, Below.drewN_ (Below.refl _ _) _⟩
      case round =>
        obtain ⟨j, hj, rfl, hbq⟩ := hrel
        have z3 := cell_later hbq z1
        have z4 := cell_later hbq z2
        have HBQ := Lib.hid hbq
        by_cases hjm : j < m
        · obtain ⟨a1, rfl, y1⟩ := (HR1.out.below hbq) j hjm
          obtain ⟨a2, rfl, y2⟩ := (HR2.out.below hbq) j hjm
          clear hbq z1 z2
          go_wp2
          go_quiet (fail)
          go_wp2
          go_roundw
          case rel => exact ⟨j + 1, by omega, by go_num, Below.drewN_ HBQ.out _⟩
          case measure => simp [intOf]; omega
        · obtain rfl : j = m := by omega
          clear hbq z1 z2
          go_wp2
          go_roundw
          case rel => exact ⟨k + 1, by omega, by go_num, bbt HBL.out HBQ.out⟩
          case measure => simp [intOf]; omega
    · obtain rfl : k = n := by omega
      clear hbl
      go_wp2
      go_ret
      exact ⟨rfl, HBL.out⟩
end Go.Proofs.Ytldbnlmimjamnaa
