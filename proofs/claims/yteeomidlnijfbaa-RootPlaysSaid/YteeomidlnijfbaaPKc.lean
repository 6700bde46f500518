/- Contracts: put and get: a number's four bytes. -/
import Derived.Test.YteeomidlnijfbaaPKa
namespace Go.Proofs.Yteeomidlnijfbaa
open Go.RowKit
set_option linter.unusedSimpArgs false
set_option linter.unusedVariables false

/-- What a row holds behind the put of x's four bytes at o. -/
def putF (F : Nat → Nat) (o x k : Nat) : Nat → Nat := fun j => if o ≤ j ∧ j < o + k then x / 256 ^ (j - o) % 256 else F j
theorem putF_step (F : Nat → Nat) (o x k : Nat) : upd (putF F o x k) (o + k) (x / 256 ^ k % 256) = putF F o x (k + 1) := by
  funext j
  unfold upd putF
  by_cases h : j = o + k
  · subst h
    rw [if_pos rfl, if_pos (by omega), Nat.add_sub_cancel_left]
  · rw [if_neg h]
    by_cases h2 : o ≤ j ∧ j < o + k
    · rw [if_pos h2, if_pos (by omega)]
    · rw [if_neg h2, if_neg (by omega)]
set_option maxRecDepth 100000 in
set_option maxHeartbeats 2000000 in
theorem put_any (G o c sz x : Nat) (F : Nat → Nat) (t : TypeId) (w : World) (hr : Row .u8 t w G sz F) (hs : o + 4 ≤ sz) (hx : x < 4294967296) :
    Calls Try.prog 80 #[.slice (some ⟨G, o, none⟩) 4 c, .int .u32 (x : Nat)] w fun e w' => (∃ v, e = .returned v) ∧ Row .u8 t w' G sz (putF F o x 4) ∧ Wr G w w' ∧ w'.heap.size = w.heap.size := by
  go_enter Try.func80, Try.ntmps80
  go_wp2
  go_loopw [7] (fun v wr => ∃ k : Nat, k ≤ 4 ∧ v = .int .i64 (k : Nat) ∧ Row .u8 t wr G sz (putF F o x k) ∧ Wr G w wr ∧ wr.heap.size = w.heap.size) (fun v _ => 4 - (intOf v).toNat)
  case atStart => exact ⟨0, by omega, rfl, hr.congr (fun j _ => by unfold putF; rw [if_neg (by omega)]), Wr.refl, rfl⟩
  case round =>
    obtain ⟨k, hk, rfl, hrow, hwr, hsz⟩ := hrel
    have HR := Lib.hid hrow
    have HW := Lib.hid hwr
    have HZ := Lib.hid hsz
    by_cases hk4 : k < 4
    · have hc := hrow.cell (j := o + k) (by omega)
      have hfr := hrow.frozen (o + k)
      have h01 : o + k < sz := by omega
      have e4 : k = 0 ∨ k = 1 ∨ k = 2 ∨ k = 3 := by omega
      have hst := hrow.set_ (o + k) (x / 256 ^ k % 256)
      rw [putF_step] at hst
      have HST := Lib.hid hst
      have HWR := Lib.hid (hwr.setCell (o + k) (.int .u8 ((x / 256 ^ k % 256 : Nat) : Int)))
      clear hrow hwr hsz hst
      rcases e4 with rfl | rfl | rfl | rfl
      all_goals
        try simp only [Nat.add_zero] at hc hfr
        simp only [Nat.pow_zero, Nat.div_one, Nat.reducePow, Nat.add_zero, Nat.zero_add, Nat.reduceAdd] at HST HWR
        go_wp2
        go_roundw
      case rel => exact ⟨1, by omega, rfl, HST.out, HWR.out, by simpa using HZ.out⟩
      case measure => simp [intOf]
      case rel => exact ⟨2, by omega, rfl, HST.out, HWR.out, by simpa using HZ.out⟩
      case measure => simp [intOf]
      case rel => exact ⟨3, by omega, rfl, HST.out, HWR.out, by simpa using HZ.out⟩
      case measure => simp [intOf]
      case rel =>
        have e : ((x / 16777216 % 256 : Nat) : Int) = (x : Int) / 16777216 := by omega
        rw [e] at HST HWR
        exact ⟨4, by omega, rfl, HST.out, HWR.out, by simpa using HZ.out⟩
      case measure => simp [intOf]
    · obtain rfl : k = 4 := by omega
      clear hrow hwr hsz
      go_wp2
      go_end0
      exact ⟨⟨_, rfl⟩, HR.out, HW.out, HZ.out⟩

set_option maxRecDepth 100000 in
set_option maxHeartbeats 2000000 in
theorem get_any (A : Option Addr) (c : Nat) (f : Nat → Nat) (w : World) (hr : Rd .u8 w A 4 f) (hf : ∀ j, j < 4 → f j < 256) :
    Calls Try.prog 85 #[.slice A 4 c] w fun e w' => e = .returned (.int .u32 (num 256 f 4 : Nat)) ∧ w = w' := by
  have HR := Lib.hid hr
  have HF := Lib.hid hf
  clear hr hf
  go_enter Try.func85, Try.ntmps85
  go_wp2
  go_loop [8, 3] (fun v s => ∃ k : Nat, k ≤ 4 ∧ v = .int .i64 (k : Nat) ∧ s = .int .u32 (num 256 f k : Nat)) (fun v _ => 4 - (intOf v).toNat)
  case atStart => exact ⟨0, by omega, rfl, rfl⟩
  case round =>
    obtain ⟨k, hk, rfl, rfl⟩ := hrel
    by_cases hlt : k < 4
    · have hfk := HF.out k (by omega)
      obtain ⟨ad, rfl, hcell⟩ := HR.out k (by omega)
      have h1 : num 256 f k < 4294967296 := num4_lt (fun j hj => HF.out j (by omega)) hk
      have h2 := or_step (f := f) (k := k) (fun j hj => HF.out j (by omega))
      have h3 : num 256 f (k + 1) < 4294967296 := num4_lt (fun j hj => HF.out j (by omega)) (by omega)
      have h4 : f k * 2 ^ (8 * k) < 4294967296 := by rw [num, p256] at h3; omega
      have h5 : bits BinOp.or IntKind.u32 (num 256 f k : Nat) (f k * 2 ^ (8 * k) : Nat) = (num 256 f (k + 1) : Nat) := by rw [u32_or_nat _ _ h1 h4, h2]
      have H5 := Lib.hid h5
      have H3 := Lib.hid h3
      clear h1 h2 h3 h4 h5
      generalize num 256 f k = z at *
      generalize hz' : num 256 f (k + 1) = z' at *
      have HZ := Lib.hid hz'
      clear hz'
      generalize f k = y at *
      have hk4 : k = 0 ∨ k = 1 ∨ k = 2 ∨ k = 3 := by omega
      have hfk' : (y : Int) < 256 := by omega
      rcases hk4 with rfl | rfl | rfl | rfl
      · have hc : w.cell? ad = some (.int .u8 (y : Nat)) := hcell
        clear hcell
        go_wp2
        go_round
        case rel => exact ⟨1, by omega, rfl, by rw [HZ.out]; exact congrArg (Value.int .u32) (by have := H5.out; simpa using this)⟩
        case measure => simp [intOf]
      · have hc : w.cell? ⟨ad.block, ad.off + 1, none⟩ = some (.int .u8 (y : Nat)) := hcell
        clear hcell
        go_wp2
        go_round
        case rel => exact ⟨2, by omega, rfl, by rw [HZ.out]; exact congrArg (Value.int .u32) (by have := H5.out; simpa using this)⟩
        case measure => simp [intOf]
      · have hc : w.cell? ⟨ad.block, ad.off + 2, none⟩ = some (.int .u8 (y : Nat)) := hcell
        clear hcell
        go_wp2
        go_round
        case rel => exact ⟨3, by omega, rfl, by rw [HZ.out]; exact congrArg (Value.int .u32) (by have := H5.out; simpa using this)⟩
        case measure => simp [intOf]
      · have hc : w.cell? ⟨ad.block, ad.off + 3, none⟩ = some (.int .u8 (y : Nat)) := hcell
        clear hcell
        go_wp2
        go_round
        case rel => exact ⟨4, by omega, rfl, by rw [HZ.out]; exact congrArg (Value.int .u32) (by have := H5.out; simpa using this)⟩
        case measure => simp [intOf]
    · obtain rfl : k = 4 := by omega
      go_wp2
      go_ret
      exact ⟨rfl, rfl⟩

end Go.Proofs.Yteeomidlnijfbaa
