/- Contracts: both sides' Seal. -/
import Derived.Test.YtmedmeabjlmggaaCe
namespace Go.Proofs.Ytmedmeabjlmggaa
open Go.RowKit

/-- The sum's four bytes, and f behind them. -/
def sealF (s : Nat) (f : Nat → Nat) : Nat → Nat := fun j => if j < 4 then s / 256 ^ j % 256 else f (j - 4)
theorem sealF_lt {s n : Nat} {f : Nat → Nat} (hf : ∀ j, j < n → f j < 256) : ∀ j, j < 4 + n → sealF s f j < 256 := fun j hj => by
  unfold sealF
  split
  · omega
  · exact hf _ (by omega)
def SealPost (w w' : World) (e : Ending) (n : Nat) (f : Nat → Nat) : Prop := ∃ v, e = .returned v ∧ Byt w' v (4 + n) (sealF (crcN f n) f) ∧ Below w.heap.size w w'
def SlInv (w wr : World) (v : Value) (k S : Nat) (f : Nat → Nat) : Prop := Own .u8 5 wr w.heap.size v k (sealF S f) ∧ Below w.heap.size w wr
theorem SlInv.step {w wr w2 : World} {v : Value} {k S x : Nat} {f : Nat → Nat} (hb : Below w.heap.size w wr) (h : Own .u8 5 w2 w.heap.size v (k + 1) (appF (sealF S f) k (fun _ => x))) (h2 : Below w.heap.size (wr.alloc (.cells #[.int .u8 (x : Nat)] 5)) w2) (hx : x = sealF S f k) :
    SlInv w w2 v (k + 1) S f :=
  ⟨h.congr fun j hj => by
    unfold appF
    split
    · rfl
    · obtain rfl : j = k := by omega
      exact hx, (hb.trans ((below_new wr _).mono hb.size)).trans h2⟩

set_option maxRecDepth 20000 in
set_option maxHeartbeats 2000000 in
theorem seal_any (A : Option Addr) (n c : Nat) (f : Nat → Nat) (w : World) (hr : Rd .u8 w A n f) (hf : ∀ j, j < n → f j < 256) (hn : n ≤ 1000000) (hA : A = none → n = 0 ∧ c = 0) :
    Calls Try.prog 49 #[.slice A n c] w fun e w' => SealPost w w' e n f := by
  have HR := Lib.hid hr
  have HF := Lib.hid hf
  have HA := Lib.hid hA
  clear hr hf hA
  go_enter Try.func49, Try.ntmps49
  go_wp2_with (at_make; refine wpList_make_cap rfl _ _ 24 rfl .u8 5 Try.underlying24 1 u8_info (by omega) _ _ _ (4 + n) rfl rfl (by omega) (by omega) (sealF (crcN f n) f) ?_; intro w1 hown1 hb1 hs1)
  have HO1 := Lib.hid hown1
  have HB1 := Lib.hid hb1
  clear hown1 hb1
  go_wp2_with (go_at_call 58; refine (sum_any A n c f _ (HR.out.below HB1.out) HF.out (by omega)).mono ?_; rintro e w2 ⟨rfl, hb2⟩)
  have hs2 := hb2.size
  have I0 : Hid (SlInv w w2 (.slice (some ⟨w.heap.size, 0, none⟩) 0 (4 + n)) 0 (crcN f n) f) :=
    ⟨HO1.out.below hb2, HB1.out.trans (hb2.mono hs1)⟩
  clear hb2 hs1 hs2
  have hSl := crcN_lt (f := f) (n := n) HF.out
  generalize hS : crcN f n = S at *
  have HS := Lib.hid hS
  clear hS
  go_loopw [3, 4, 11] (fun v3 v4 v11 wr => ∃ k, k ≤ 4 ∧ v4 = .int .u32 (S / 256 ^ k : Nat) ∧ v11 = .int .i64 (k : Nat) ∧ SlInv w wr v3 k S f) (fun _ _ v11 _ => 4 - (intOf v11).toNat)
  case atStart => exact ⟨0, by omega, by rw [Nat.pow_zero, Nat.div_one], rfl, I0.out⟩
  case round =>
    obtain ⟨k, hk, rfl, rfl, hinv⟩ := hrel
    clear I0
    have HI := Lib.hid hinv
    clear hinv
    have hz : S / 256 ^ k < 4294967296 := Nat.lt_of_le_of_lt (Nat.div_le_self _ _) hSl
    by_cases hk4 : k < 4
    · have HZ : Hid (S / 256 ^ k % 256 = sealF S f k) := by show _ = _; unfold sealF; rw [if_pos hk4]
      have HZ2 : Hid (S / 256 ^ (k + 1) = S / 256 ^ k / 256) := by show _ = _; rw [Nat.pow_succ, Nat.div_div_eq_div_mul]
      generalize S / 256 ^ k = z at *
      have hown1 := HI.out.1.alloc (.cells #[.int .u8 ((z : Int) % 256)] 5)
      have hrd1 : Rd .u8 (wr.alloc (.cells #[.int .u8 ((z : Int) % 256)] 5)) (some ⟨wr.heap.size, 0, none⟩) 1 (fun _ => z % 256) := (row_one wr (z % 256)).rd0 (Nat.le_refl _)
      have hws := HI.out.2.size
      have HST : Hid (∀ v2 w5, Own .u8 5 w5 w.heap.size v2 (k + 1) (appF (sealF S f) k (fun _ => z % 256)) → Below w.heap.size (wr.alloc (.cells #[.int .u8 ((z : Int) % 256)] 5)) w5 → SlInv w w5 v2 (k + 1) S f) := fun v2 w5 q1 q2 =>
        SlInv.step (wr := wr) HI.out.2 q1 q2 HZ.out
      clear HI
      go_wp2_with (at_builtin; refine wpList_app rfl (.tmp 13) (.tmp 16) 24 rfl .u8 5 Try.underlying24 1 u8_info (by omega) w.heap.size _ k (sealF S f) rfl hown1 (some ⟨wr.heap.size, 0, none⟩) 1 1 (fun _ => z % 256) rfl hrd1 (fun h => by cases h) (by omega) (by simp; omega) ?_; intro v2 w5 hown2 hb2 hsz2)
      have HS2 := Lib.hid (HST.out _ _ hown2 hb2)
      clear hown2 hb2 hsz2 hown1 hrd1
      go_wp2
      go_roundw
      case rel => exact ⟨k + 1, by omega, by rw [HZ2.out]; go_num, by go_num, HS2.out⟩
      case measure => simp [intOf]; omega
    · obtain rfl : k = 4 := by omega
      clear hz
      have hrdA := HR.out.below HI.out.2
      have hown4 := HI.out.1
      have hws := HI.out.2.size
      go_wp2_with (at_builtin; refine wpList_app rfl (.tmp 21) (.tmp 22) 24 rfl .u8 5 Try.underlying24 1 u8_info (by omega) w.heap.size _ 4 (sealF S f) rfl hown4 A n c f rfl hrdA HA.out (by omega) hws ?_; intro v2 w5 hown2 hb2 hsz2)
      have HO2 := Lib.hid hown2
      have HB2 := Lib.hid (HI.out.2.trans hb2)
      clear hown4 hrdA hown2 hb2 hsz2
      go_wp2
      go_ret
      refine ⟨v2, rfl, ?_, HB2.out⟩
      rw [HS.out]
      exact own_byt (HO2.out.congr fun j hj => by unfold appF sealF; by_cases h4 : j < 4 <;> simp [h4]) (sealF_lt HF.out)

end Go.Proofs.Ytmedmeabjlmggaa
