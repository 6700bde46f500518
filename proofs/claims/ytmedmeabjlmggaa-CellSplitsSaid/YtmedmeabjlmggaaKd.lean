/- Contract: whether all bytes are 0. -/
import Derived.Test.YtmedmeabjlmggaaKa
import Derived.Shelf.Bytes.SlCountOne
namespace Go.Proofs.Ytmedmeabjlmggaa
open Go.RowKit
set_option linter.unusedSimpArgs false
set_option linter.unusedVariables false

/-- The bytes as the library counts them. -/
def intsOf (f : Nat → Nat) (n : Nat) : List Int := (List.range n).map fun j => (f j : Int)
def zerosN (f : Nat → Nat) (n : Nat) : Nat := Lib.countByte (Lib.bytesOf (intsOf f n)) 0
theorem zerosN_le (f : Nat → Nat) (n : Nat) : zerosN f n ≤ n := by
  unfold zerosN Lib.countByte
  refine Nat.le_trans List.count_le_length ?_
  simp [Lib.bytesOf, intsOf]
theorem zerosN_iff {f : Nat → Nat} {n : Nat} (hf : ∀ j, j < n → f j < 256) : zerosN f n = n ↔ ∀ j, j < n → f j = 0 := by
  have hl : (Lib.bytesOf (intsOf f n)).length = n := by simp [Lib.bytesOf, intsOf]
  unfold zerosN Lib.countByte
  have h := List.count_eq_length (a := (0 : UInt8)) (l := Lib.bytesOf (intsOf f n))
  rw [hl] at h
  rw [h]
  constructor
  · intro h j hj
    have := h (UInt8.ofNat (f j)) (by simp [Lib.bytesOf, intsOf]; exact ⟨j, hj, rfl⟩)
    have h2 := congrArg UInt8.toNat this
    have h3 := hf j hj
    simp at h2
    omega
  · intro h b hb
    simp [Lib.bytesOf, intsOf] at hb
    obtain ⟨j, hj, rfl⟩ := hb
    rw [h j hj]
    rfl

set_option maxHeartbeats 2000000 in
set_option maxRecDepth 100000 in
theorem count_any (ad sd : Addr) (n c d : Nat) (f : Nat → Nat) (w : World) (hr : Rd .u8 w (some ad) n f) (hs : w.cell? sd = some (.int .u8 0)) (hsb : sd = ⟨sd.block, 0, none⟩) :
    Calls Try.prog 60 #[.slice (some ad) n c, .slice (some sd) 1 d] w fun e w' => e = .returned (.int .i64 (zerosN f n : Nat)) ∧ w' = w := by
  obtain ⟨sb, hsb⟩ : ∃ sb, sd = ⟨sb, 0, none⟩ := ⟨_, hsb⟩
  subst hsb
  have hrun := Lib.run_countAt (P := Try.prog) w ad n c (intsOf f n) (by simp [intsOf]) (fun i hi => by
    rw [hr.at_ hi]
    simp [intsOf, hi]) 0
  have hx := run_callFunc_extern (P := Try.prog) Try.func68 (by kernel_rfl) (by kernel_rfl) (by kernel_rfl) (e := Extern.BytealgCount.count) (by kernel_rfl)
  have hx2 := hx #[.slice (some ad) n c, .int .u8 0] w
  rw [hrun] at hx2
  simp only [Result.andThen] at hx2
  have HX := Lib.hid hx2
  clear hrun hx hx2 hr
  go_enter Try.func60, Try.ntmps60
  go_wp2
  rw [HX.out]
  try simp only [Result.andThen]
  rw [Oper.upon_value]
  go_wp2
  go_ret
  exact ⟨rfl, rfl⟩

set_option maxHeartbeats 2000000 in
theorem blank_any (ad : Addr) (n c : Nat) (f : Nat → Nat) (w : World) (hr : Rd .u8 w (some ad) n f) (hf : ∀ j, j < n → f j < 256) (hn : n ≤ 1000000) :
    Calls Try.prog 52 #[.slice (some ad) n c] w fun e w' => (∃ b, e = .returned (.bool b) ∧ (b = true ↔ ∀ j, j < n → f j = 0)) ∧ Below w.heap.size w w' := by
  have HR := Lib.hid (hr.below (below_new w (.cells #[.int .u8 0] 5)))
  have HI := Lib.hid (zerosN_iff hf)
  have HW := Lib.hid (below_new w (.cells #[.int .u8 0] 5))
  have hc0 : (w.alloc (.cells #[.int .u8 0] 5)).cell? ⟨w.heap.size, 0, none⟩ = some (.int .u8 0) := (row_one (K := .u8) (t := 5) w 0).cell (by omega)
  have HC := Lib.hid hc0
  have hz := zerosN_le f n
  clear hr hf hc0
  go_enter Try.func52, Try.ntmps52
  go_wp2_with (go_at_call 60; refine (count_any ad ⟨w.heap.size, 0, none⟩ n c 1 f _ HR.out HC.out rfl).mono ?_; rintro e w' ⟨rfl, rfl⟩; generalize zerosN f n = Z at *)
  go_ret
  refine ⟨⟨_, rfl, ?_⟩, HW.out⟩
  have := HI.out
  rw [← this]
  simp
  try omega
end Go.Proofs.Ytmedmeabjlmggaa
