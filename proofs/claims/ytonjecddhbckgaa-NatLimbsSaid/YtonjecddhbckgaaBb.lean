/- Contracts: Bytes. -/
import Derived.Test.YtonjecddhbckgaaBa
import Derived.Test.YtonjecddhbckgaaCm
import Derived.Test.YtonjecddhbckgaaCe
import Derived.Deep.RegionWith
namespace Go.Proofs.Ytonjecddhbckgaa
open Go.RowKit

theorem sl32_lh (g o len cap l h : Nat) (h1 : l ≤ h) (h2 : h ≤ cap) (h3 : l < cap) (w : World) :
    (Instr.slice 32 (.slice (some ⟨g, o, none⟩) len cap) (some (.int .i64 l)) (some (.int .i64 h)) none).run Try.prog w = .ok (.slice (some ⟨g, o + l, none⟩) (h - l) (cap - l)) w := by
  rw [run_slice_lh w 32 (some ⟨g, o, none⟩) len cap el32 .i64 .i64 l h (by omega) (by omega) (by omega), sz32]
  simp only [Result.andThen, sliced, Int.toNat_natCast, Nat.mul_one]
  rw [if_neg (by omega)]
  simp only [Option.map_some, add_mk]

/-- The bytes of a number of p limbs. -/
def byteOf (p : Nat) (f : Nat → Nat) (j : Nat) : Nat := if j < 2 then p / 256 ^ j % 256 else f ((j - 2) / 4) / 256 ^ ((j - 2) % 4) % 256
def BytInv (w wr : World) (p i : Nat) (f F : Nat → Nat) : Prop :=
  Row .u8 5 wr w.heap.size (2 + 4 * p) F ∧ Below w.heap.size w wr ∧ ∀ j, j < 2 + 4 * i → F j = byteOf p f j
def BytesPost (w w' : World) (e : Ending) (p : Nat) (f : Nat → Nat) : Prop :=
  ∃ F, e = .returned (.slice (some ⟨w.heap.size, 0, none⟩) (2 + 4 * p) (2 + 4 * p)) ∧ BytInv w w' p p f F

theorem BytInv.step {w wr w2 : World} {p i : Nat} {f F F2 : Nat → Nat} (h : BytInv w wr p i f F) (hl : LeaInv wr.drew w2 w.heap.size (2 + 4 * i) (2 + 4 * p) 4 (f i) F F2) : BytInv w w2 p (i + 1) f F2 := by
  obtain ⟨h1, h2, h3⟩ := h
  obtain ⟨l1, l2, l3, l4⟩ := hl
  refine ⟨l1, l2.below (Below.drew_ h2) h2.size (Nat.le_refl _), fun j hj => ?_⟩
  by_cases hj2 : j < 2 + 4 * i
  · rw [l4 j (by omega)]; exact h3 j hj2
  · obtain ⟨t, rfl⟩ : ∃ t, j = 2 + 4 * i + t := ⟨j - (2 + 4 * i), by omega⟩
    rw [l3 t (by omega)]
    unfold byteOf
    rw [if_neg (by omega), show (2 + 4 * i + t - 2) / 4 = i from by omega, show (2 + 4 * i + t - 2) % 4 = t from by omega]

set_option maxHeartbeats 1000000 in
theorem bytes_any (A : Option Addr) (n c : Nat) (f : Nat → Nat) (w : World) (ha : Rd .u32 w A n f) (hc : n ≤ c) (hn : n ≤ 4611686018427387904) (hf : ∀ j, j < n → f j < 4294967296) (hp : tlen f n ≤ 4096) :
    Calls Try.prog 31 #[.slice A n c] w fun e w' => BytesPost w w' e (tlen f n) f := by
  have D1 := Lib.hid (fun w' hr' => cut_any A n c f w' hr' hc (by omega))
  have ha' := ha.less (tlen_le (f := f) n)
  have HF := Lib.hid (tlen_lt_dig hf)
  clear hf
  have hg1 : (tlen f n : Int) ≤ 4096 := by omega
  generalize tlen f n = p at *
  have hwp : IntKind.u32.wrap (p : Int) = (p : Int) := IntWalk.u32_in _ (by omega)
  go_enter Try.func31, Try.ntmps31
  go_wp2_with fail
  refine (D1.out _ ha).mono ?_
  rintro e w' ⟨rfl, rfl⟩
  clear ha D1
  go_wp2_with (at_make; refine wpList_make_row rfl _ _ 32 rfl .u8 5 Try.underlying32 1 u8_info (by omega) .i64 .i64 _ _ (2 + 4 * p) rfl rfl (by omega) (by omega) (by omega) ?_; intro w1 hrow1 hb1 hs1)
  have L1 := Lib.hid (putLeast_any w.heap.size 0 2 (2 + 4 * p) (2 + 4 * p) p (fun _ => 0) w1 hrow1 (by omega) (by omega))
  have HA := Lib.hid ha'
  have HB := Lib.hid hb1
  clear ha' hrow1 hb1 hs1
  go_wp2_with fail
  refine L1.out.mono ?_
  rintro e w2 ⟨F2, rfl, hl⟩
  have I0 := Lib.hid (show BytInv w w2 p 0 f F2 from ⟨hl.1, hl.2.1.below HB.out HB.out.size (Nat.le_refl _), fun j hj => by
    have := hl.2.2.1 j (by omega)
    rw [Nat.zero_add] at this
    rw [this]; unfold byteOf; rw [if_pos (by omega)]⟩)
  clear hl L1
  go_wp2
  go_loopw [24] (fun v24 wr => ∃ i F, i ≤ p ∧ v24 = .int .i64 (i : Nat) ∧ BytInv w wr p i f F) (fun v24 _ => p - (intOf v24).toNat)
  case atStart => exact ⟨0, F2, Nat.zero_le _, rfl, I0.out⟩
  case round =>
    obtain ⟨i, F, hi, rfl, hinv⟩ := hrel
    clear I0
    by_cases hlt : i < p
    · have HI := Lib.hid hinv
      clear hinv
      obtain ⟨ad, rfl, hcell⟩ := (HA.out.below HI.out.2.1) i hlt
      have hsl : ∀ w' : World, (Instr.slice 32 (.slice (some ⟨w.heap.size, 0, none⟩) (2 + 4 * p) (2 + 4 * p)) (some (.int .i64 (2 + 4 * (i : Int)))) (some (.int .i64 (2 + 4 * (i : Int) + 4))) none).run Try.prog w' = .ok (.slice (some ⟨w.heap.size, 2 + 4 * i, none⟩) 4 (2 + 4 * p - (2 + 4 * i))) w' := fun w' => by
        have := sl32_lh w.heap.size 0 (2 + 4 * p) (2 + 4 * p) (2 + 4 * i) (2 + 4 * i + 4) (by omega) (by omega) (by omega) w'
        rw [Nat.zero_add, Nat.add_sub_cancel_left] at this
        exact this
      have D : Hid (∀ w', Row .u8 5 w' w.heap.size (2 + 4 * p) F → Calls Try.prog 59 #[.slice (some ⟨w.heap.size, 2 + 4 * i, none⟩) 4 (2 + 4 * p - (2 + 4 * i)), .int .u32 (f i : Nat)] w' fun e w2 => ∃ F2, e = .returned (.tuple #[]) ∧ LeaInv w' w2 w.heap.size (2 + 4 * i) (2 + 4 * p) 4 (f i) F F2) :=
        fun w' r1 => putLeast_any w.heap.size (2 + 4 * i) 4 _ (2 + 4 * p) (f i) F w' r1 (by omega) (by omega)
      have hwa : IntKind.i64.wrap (2 + 4 * (i : Int) + 4) = 2 + 4 * (i : Int) + 4 := IntWalk.i64_in _ (by omega)
      have R1 := Lib.hid HI.out.1
      go_wp2
      go_region_with (go_at_call 59; refine (D.out (World.drew wr) R1.out.drew).mono ?_; rintro e w2 ⟨F2, rfl, hti⟩)
      all_goals
        have HS := Lib.hid (HI.out.step hti)
        clear hti
        go_wp2
        go_roundw
        case rel => exact ⟨i + 1, _, by omega, by go_num, HS.out⟩
        case measure => simp [intOf]; omega
    · obtain rfl : i = p := by omega
      have HI := Lib.hid hinv
      clear hinv
      go_wp2
      go_ret
      exact ⟨F, rfl, HI.out⟩
end Go.Proofs.Ytonjecddhbckgaa
