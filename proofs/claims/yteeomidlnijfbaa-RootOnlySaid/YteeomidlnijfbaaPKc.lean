/- What a slice of bytes that came in reads as. -/
import Derived.Test.YteeomidlnijfbaaPCj
namespace Go.Proofs.Yteeomidlnijfbaa
open Go.RowKit

theorem byt_of {w : World} {a : Option Addr} {len cap : Nat} {zs : List Int}
    (h : (a = none ∧ len = 0 ∧ cap = 0 ∧ zs = []) ∨ ∃ x, a = some x ∧ len ≤ cap ∧ cap ≤ maxLen ∧ zs.length = cap ∧ (∀ i, i < zs.length → w.cell? (x.add i) = some (.int .u8 (zs.getD i 0))) ∧ ∀ n ∈ zs, (Lit.int .u8 n).wf = true) :
    len ≤ 9223372036854775807 ∧ ∃ f, Byt w (.slice a len cap) len f := by
  rcases h with ⟨rfl, rfl, rfl, rfl⟩ | ⟨x, rfl, hl, hm, hz, hcell, hwf⟩
  · exact ⟨by omega, fun _ => 0, none, 0, rfl, Nat.le_refl _, Rd.zero, fun j hj => absurd hj (by omega)⟩
  · have hb : ∀ j, j < len → 0 ≤ zs.getD j 0 ∧ zs.getD j 0 < 256 := fun j hj => by
      have hjl : j < zs.length := by omega
      have hmem : zs.getD j 0 ∈ zs := by
        rw [List.getD, List.getElem?_eq_getElem hjl]; exact List.getElem_mem hjl
      have := hwf _ hmem
      generalize zs.getD j 0 = q at this ⊢
      simp [Lit.wf, IntKind.min, IntKind.max, IntKind.bits, IntKind.signed] at this
      omega
    refine ⟨by simp only [maxLen] at hm; omega, fun j => (zs.getD j 0).toNat, some x, cap, rfl, hl, fun j hj => ⟨x, rfl, ?_⟩, fun j hj => by
      have := hb j hj
      show (zs.getD j 0).toNat < 256
      generalize zs.getD j 0 = q at this ⊢
      omega⟩
    rw [hcell j (by omega), Int.toNat_of_nonneg (hb j hj).1]
end Go.Proofs.Yteeomidlnijfbaa

/- A cell's words; whether it may be; how many cells a record has: both sides. -/
namespace Go.Proofs.Yteeomidlnijfbaa
open Go.RowKit

/-- May a cell be? -/
def mayP (p q : Int) (n : Nat) : Prop := 1 ≤ q ∧ q ≤ 8 ∧ 0 ≤ p ∧ p < q ∧ 1 ≤ n ∧ n ≤ 49 ∧ (p = q - 1 ∨ n = 49)
instance (p q : Int) (n : Nat) : Decidable (mayP p q n) := by unfold mayP; infer_instance
/-- A cell as a value. -/
abbrev cellV (g s : Nat) (p q : Int) (A : Option Addr) (n c : Nat) : Value := .agg #[.int .u32 (g : Nat), .int .u32 (s : Nat), .int .i64 p, .int .i64 q, .slice A n c]
set_option maxRecDepth 100000 in
set_option maxHeartbeats 2000000 in
theorem may_any (g s : Nat) (p q : Int) (A : Option Addr) (n c : Nat) (w : World) (hn : n ≤ 9223372036854775807) :
    Calls Try.prog 77 #[cellV g s p q A n c] w fun e w' => e = .returned (.bool (decide (mayP p q n))) ∧ Below w.heap.size w w' := by
  obtain ⟨B, hB⟩ : ∃ B, decide (mayP p q n) = B := ⟨_, rfl⟩
  rw [hB]
  have HBD := Lib.hid hB
  clear hB
  have HW := Lib.hid (below_new w (.cells #[.int .u32 (g : Nat), .int .u32 (s : Nat), .int .i64 p, .int .i64 q, .slice A n c] 97))
  have fin : ∀ b : Bool, (b = true ↔ mayP p q n) → b = B := fun b hb => by
    rw [← HBD.out]
    cases b
    · exact (decide_eq_false (fun h => by have := hb.2 h; cases this)).symm
    · exact (decide_eq_true (hb.1 rfl)).symm
  have FIN := Lib.hid fin
  clear fin HBD
  by_cases h1 : q < 1
  · go_enter Try.func77, Try.ntmps77
    go_wp2
    go_ret
    exact ⟨congrArg (fun b => Ending.returned (.bool b)) (FIN.out _ (by unfold mayP; simp; omega)), HW.out⟩
  by_cases h2 : 8 < q
  · go_enter Try.func77, Try.ntmps77
    go_wp2
    go_ret
    exact ⟨congrArg (fun b => Ending.returned (.bool b)) (FIN.out _ (by unfold mayP; simp; omega)), HW.out⟩
  by_cases h3 : p < 0
  · go_enter Try.func77, Try.ntmps77
    go_wp2
    go_ret
    exact ⟨congrArg (fun b => Ending.returned (.bool b)) (FIN.out _ (by unfold mayP; simp; omega)), HW.out⟩
  by_cases h4 : q ≤ p
  · go_enter Try.func77, Try.ntmps77
    go_wp2
    go_ret
    exact ⟨congrArg (fun b => Ending.returned (.bool b)) (FIN.out _ (by unfold mayP; simp; omega)), HW.out⟩
  by_cases h5 : p < q - 1
  · go_enter Try.func77, Try.ntmps77
    go_wp2
    go_ret
    exact ⟨congrArg (fun b => Ending.returned (.bool b)) (FIN.out _ (by unfold mayP; simp; omega)), HW.out⟩
  by_cases h6 : n < 1
  · go_enter Try.func77, Try.ntmps77
    go_wp2
    go_ret
    exact ⟨congrArg (fun b => Ending.returned (.bool b)) (FIN.out _ (by unfold mayP; simp; omega)), HW.out⟩
  · go_enter Try.func77, Try.ntmps77
    go_wp2
    go_ret
    exact ⟨congrArg (fun b => Ending.returned (.bool b)) (FIN.out _ (by unfold mayP; simp; omega)), HW.out⟩
end Go.Proofs.Yteeomidlnijfbaa

/- Contracts: put and get: a number's four bytes. -/
namespace Go.Proofs.Yteeomidlnijfbaa
open Go.RowKit
set_option linter.unusedSimpArgs false
set_option linter.unusedVariables false

/-- What a row holds behind the put of x's four bytes at o. -/
def putF (F : Nat → Nat) (o x k : Nat) : Nat → Nat := fun j => if o ≤ j ∧ j < o + k then x / 256 ^ (j - o) % 256 else F j
theorem putF_step (F : Nat → Nat) (o x k : Nat) : upd (putF F o x k) (o + k) (x / 256 ^ k % 256) = putF F o x (k + 1) := by
  funext j
  unfold upd putF
  by_cases h : j = o + k
  · subst h
    rw [if_pos rfl, if_pos (by omega), Nat.add_sub_cancel_left]
  · rw [if_neg h]
    by_cases h2 : o ≤ j ∧ j < o + k
    · rw [if_pos h2, if_pos (by omega)]
    · rw [if_neg h2, if_neg (by omega)]
set_option maxRecDepth 100000 in
set_option maxHeartbeats 2000000 in
theorem put_any (G o c sz x : Nat) (F : Nat → Nat) (t : TypeId) (w : World) (hr : Row .u8 t w G sz F) (hs : o + 4 ≤ sz) (hx : x < 4294967296) :
    Calls Try.prog 80 #[.slice (some ⟨G, o, none⟩) 4 c, .int .u32 (x : Nat)] w fun e w' => (∃ v, e = .returned v) ∧ Row .u8 t w' G sz (putF F o x 4) ∧ Wr G w w' ∧ w'.heap.size = w.heap.size := by
  go_enter Try.func80, Try.ntmps80
  go_wp2
  go_loopw [7] (fun v wr => ∃ k : Nat, k ≤ 4 ∧ v = .int .i64 (k : Nat) ∧ Row .u8 t wr G sz (putF F o x k) ∧ Wr G w wr ∧ wr.heap.size = w.heap.size) (fun v _ => 4 - (intOf v).toNat)
  case atStart => exact ⟨0, by omega, rfl, hr.congr (fun j _ => by unfold putF; rw [if_neg (by omega)]), Wr.refl, rfl⟩
  case round =>
    obtain ⟨k, hk, rfl, hrow, hwr, hsz⟩ := hrel
    have HR := Lib.hid hrow
    have HW := Lib.hid hwr
    have HZ := Lib.hid hsz
    by_cases hk4 : k < 4
    · have hc := hrow.cell (j := o + k) (by omega)
      have hfr := hrow.frozen (o + k)
      have h01 : o + k < sz := by omega
      have e4 : k = 0 ∨ k = 1 ∨ k = 2 ∨ k = 3 := by omega
      have hst := hrow.set_ (o + k) (x / 256 ^ k % 256)
      rw [putF_step] at hst
      have HST := Lib.hid hst
      have HWR := Lib.hid (hwr.setCell (o + k) (.int .u8 ((x / 256 ^ k % 256 : Nat) : Int)))
      clear hrow hwr hsz hst
      rcases e4 with rfl | rfl | rfl | rfl
      all_goals
        try simp only [Nat.add_zero] at hc hfr
        simp only [Nat.pow_zero, Nat.div_one, Nat.reducePow, Nat.add_zero, Nat.zero_add, Nat.reduceAdd] at HST HWR
        go_wp2
        go_roundw
      case rel => exact ⟨1, by omega, rfl, HST.out, HWR.out, by simpa using HZ.out⟩
      case measure => simp [intOf]
      case rel => exact ⟨2, by omega, rfl, HST.out, HWR.out, by simpa using HZ.out⟩
      case measure => simp [intOf]
      case rel => exact ⟨3, by omega, rfl, HST.out, HWR.out, by simpa using HZ.out⟩
      case measure => simp [intOf]
      case rel =>
        have e : ((x / 16777216 % 256 : Nat) : Int) = (x : Int) / 16777216 := by omega
        rw [e] at HST HWR
        exact ⟨4, by omega, rfl, HST.out, HWR.out, by simpa using HZ.out⟩
      case measure => simp [intOf]
    · obtain rfl : k = 4 := by omega
      clear hrow hwr hsz
      go_wp2
      go_end0
      exact ⟨⟨_, rfl⟩, HR.out, HW.out, HZ.out⟩

set_option maxRecDepth 100000 in
set_option maxHeartbeats 2000000 in
theorem get_any (A : Option Addr) (c : Nat) (f : Nat → Nat) (w : World) (hr : Rd .u8 w A 4 f) (hf : ∀ j, j < 4 → f j < 256) :
    Calls Try.prog 85 #[.slice A 4 c] w fun e w' => e = .returned (.int .u32 (num 256 f 4 : Nat)) ∧ w = w' := by
  have HR := Lib.hid hr
  have HF := Lib.hid hf
  clear hr hf
  go_enter Try.func85, Try.ntmps85
  go_wp2
  go_loop [8, 3] (fun v s => ∃ k : Nat, k ≤ 4 ∧ v = .int .i64 (k : Nat) ∧ s = .int .u32 (num 256 f k : Nat)) (fun v _ => 4 - (intOf v).toNat)
  case atStart => exact ⟨0, by omega, rfl, rfl⟩
  case round =>
    obtain ⟨k, hk, rfl, rfl⟩ := hrel
    by_cases hlt : k < 4
    · have hfk := HF.out k (by omega)
      obtain ⟨ad, rfl, hcell⟩ := HR.out k (by omega)
      have h1 : num 256 f k < 4294967296 := num4_lt (fun j hj => HF.out j (by omega)) hk
      have h2 := or_step (f := f) (k := k) (fun j hj => HF.out j (by omega))
      have h3 : num 256 f (k + 1) < 4294967296 := num4_lt (fun j hj => HF.out j (by omega)) (by omega)
      have h4 : f k * 2 ^ (8 * k) < 4294967296 := by rw [num, p256] at h3; omega
      have h5 : bits BinOp.or IntKind.u32 (num 256 f k : Nat) (f k * 2 ^ (8 * k) : Nat) = (num 256 f (k + 1) : Nat) := by rw [u32_or_nat _ _ h1 h4, h2]
      have H5 := Lib.hid h5
      have H3 := Lib.hid h3
      clear h1 h2 h3 h4 h5
      generalize num 256 f k = z at *
      generalize hz' : num 256 f (k + 1) = z' at *
      have HZ := Lib.hid hz'
      clear hz'
      generalize f k = y at *
      have hk4 : k = 0 ∨ k = 1 ∨ k = 2 ∨ k = 3 := by omega
      have hfk' : (y : Int) < 256 := by omega
      rcases hk4 with rfl | rfl | rfl | rfl
      · have hc : w.cell? ad = some (.int .u8 (y : Nat)) := hcell
        clear hcell
        go_wp2
        go_round
        case rel => exact ⟨1, by omega, rfl, by rw [HZ.out]; exact congrArg (Value.int .u32) (by have := H5.out; simpa using this)⟩
        case measure => simp [intOf]
      · have hc : w.cell? ⟨ad.block, ad.off + 1, none⟩ = some (.int .u8 (y : Nat)) := hcell
        clear hcell
        go_wp2
        go_round
        case rel => exact ⟨2, by omega, rfl, by rw [HZ.out]; exact congrArg (Value.int .u32) (by have := H5.out; simpa using this)⟩
        case measure => simp [intOf]
      · have hc : w.cell? ⟨ad.block, ad.off + 2, none⟩ = some (.int .u8 (y : Nat)) := hcell
        clear hcell
        go_wp2
        go_round
        case rel => exact ⟨3, by omega, rfl, by rw [HZ.out]; exact congrArg (Value.int .u32) (by have := H5.out; simpa using this)⟩
        case measure => simp [intOf]
      · have hc : w.cell? ⟨ad.block, ad.off + 3, none⟩ = some (.int .u8 (y : Nat)) := hcell
        clear hcell
        go_wp2
        go_round
        case rel => exact ⟨4, by omega, rfl, by rw [HZ.out]; exact congrArg (Value.int .u32) (by have := H5.out; simpa using this)⟩
        case measure => simp [intOf]
    · obtain rfl : k = 4 := by omega
      go_wp2
      go_ret
      exact ⟨rfl, rfl⟩

end Go.Proofs.Yteeomidlnijfbaa
