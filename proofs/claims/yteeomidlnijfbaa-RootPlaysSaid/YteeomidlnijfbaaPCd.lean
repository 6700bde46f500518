/- Contracts: both sides' Sum. -/
import Derived.Test.YteeomidlnijfbaaPCc
namespace Go.Proofs.Yteeomidlnijfbaa
open Go.RowKit

/-- n bytes, f. -/
def Byt (w : World) (v : Value) (n : Nat) (f : Nat → Nat) : Prop := ∃ A c, v = .slice A n c ∧ n ≤ c ∧ Rd .u8 w A n f ∧ ∀ j, j < n → f j < 256
theorem Byt.below {w w' : World} {v : Value} {n : Nat} {f : Nat → Nat} (h : Byt w v n f) (hb : Below w.heap.size w w') : Byt w' v n f := by
  obtain ⟨A, c, h1, h2, h3, h4⟩ := h
  exact ⟨A, c, h1, h2, h3.below hb, h4⟩

theorem ret_int {k : IntKind} {a b : Int} (h : a = b) : Ending.returned (.int k a) = .returned (.int k b) := by rw [h]
def zeros : Array Value := Array.replicate 256 (.int .u32 0)
theorem zero_tab (w : World) : Sem.run Try.prog (zeroValue 137) w = .ok (.agg zeros) w := by kernel_rfl
theorem zeros_row (w : World) : Row .u32 137 (w.alloc (.cells zeros 137)) w.heap.size 256 (fun _ => 0) :=
  ⟨_, heap_alloc_new w _, by simp [zeros], fun j hj => by simp [zeros, hj]⟩
theorem conv8 (s : Nat) : IntKind.u8.wrap (s : Int) = ((s % 256 : Nat) : Int) := by
  rw [IntKind.wrap_u8']
  omega

set_option maxRecDepth 100000 in
set_option maxHeartbeats 1000000 in
theorem sum_any (A : Option Addr) (n c : Nat) (f : Nat → Nat) (w : World) (hr : Rd .u8 w A n f) (hf : ∀ j, j < n → f j < 256) (hn : n ≤ 4611686018427387904) :
    Calls Try.prog 88 #[.slice A n c] w fun e w' => e = .returned (.int .u32 (crcN f n : Nat)) ∧ Below w.heap.size w w' := by
  have HR := Lib.hid hr
  have HF := Lib.hid hf
  clear hr hf
  have hz := zero_tab w
  go_enter Try.func88, Try.ntmps88
  go_wp2_with (go_at_call 93; refine (fill_any _ _ _ (zeros_row w) rfl).mono ?_; rintro e w1 ⟨rfl, hw1, ft, hrow, htab⟩; have HW1 := Lib.hid (show Below w.heap.size w w1 from hw1.below ((Below.refl _ _).alloc (Nat.le_refl _) _) (by simp) (Nat.le_refl _)); have HRW := Lib.hid hrow; have HTB := Lib.hid htab; clear hw1 hrow htab)
  clear hz
  go_loop [10, 4] (fun v s => ∃ k : Nat, k ≤ n ∧ v = .int .i64 (k : Nat) ∧ s = .int .u32 (crcS f k : Nat)) (fun v _ => n - (intOf v).toNat)
  case atStart => exact ⟨0, Nat.zero_le _, rfl, rfl⟩
  case round =>
    obtain ⟨k, hk, rfl, rfl⟩ := hrel
    have hs : crcS f k < 4294967296 := crcS_lt k (fun j hj => HF.out j (by omega))
    have hc : crcS f (k + 1) = shn 8 (crcS f k ^^^ f k) := rfl
    have hE : crcN f k = 4294967295 ^^^ crcS f k := rfl
    generalize crcS f k = s at *
    by_cases hlt : k < n
    · have hfk := HF.out k hlt
      have hcs := crc_step s (f k)
      obtain ⟨ad, rfl, hcell⟩ := (HR.out.below HW1.out) k hlt
      have hix : (s % 256) ^^^ f k < 256 := byte_xor (by omega) hfk
      have hx1 : bits BinOp.xor IntKind.u8 ((s : Int) % 256) (f k : Nat) = (((s % 256) ^^^ f k : Nat) : Int) := by
        have := u8_xor_nat (s % 256) (f k) (by omega) hfk
        rw [← this]
        rfl
      have ht := HTB.out _ hix
      have hx2 : bits BinOp.xor IntKind.u32 ((s : Int) / 256) (shn 8 ((s % 256) ^^^ f k) : Nat) = ((shn 8 (s ^^^ f k) : Nat) : Int) := by
        have := u32_xor_nat (s / 256) (shn 8 ((s % 256) ^^^ f k)) (by omega) (shn_lt 8 (by omega))
        rw [hcs] at this
        rw [← this]
        rfl
      have hcl := HRW.out.cell hix
      rw [ht] at hcl
      generalize (s % 256) ^^^ f k = ix at *
      have HC := Lib.hid hc
      have i1 : (0 : Int) ≤ (ix : Int) := by omega
      have i2 : (ix : Int) < 256 := by omega
      have hfk' : (f k : Int) < 256 := by omega
      clear hc hcs ht hix
      clear hE
      go_wp2
      go_round
      case rel => exact ⟨k + 1, by omega, by go_num, by rw [HC.out]⟩
      case measure => simp [intOf]; omega
    · obtain rfl : k = n := by omega
      have hx : bits BinOp.xor IntKind.u32 IntKind.u32.max (s : Int) = ((4294967295 ^^^ s : Nat) : Int) := u32_xor_nat 4294967295 s (by omega) hs
      have HE := Lib.hid hE
      clear hc hE
      go_wp2
      go_ret
      exact ⟨by rw [HE.out]; rfl, HW1.out⟩

theorem crcS_ref (f : Nat → Nat) (k : Nat) : crcS f (k + 1) = shn 8 (crcS f k ^^^ f k) := rfl
theorem shn_out (n x : Nat) : shn (n + 1) x = sh (shn n x) := by rw [shn_add]; rfl
theorem sh_odd {x : Nat} (h : x % 2 = 1) : sh x = x / 2 ^^^ 3988292384 := by unfold sh; rw [if_pos h]
theorem sh_even {x : Nat} (h : x % 2 = 0) : sh x = x / 2 := by unfold sh; rw [if_neg (by omega), Nat.xor_zero]
theorem turn_sub (s : Nat) (h : s < 4294967296) : 4294967295 ^^^ s = 4294967295 - s := by
  have e : 4294967295 ^^^ s = (BitVec.allOnes 32 ^^^ BitVec.ofNat 32 s).toNat := by
    rw [BitVec.toNat_xor, BitVec.toNat_ofNat, Nat.mod_eq_of_lt (by omega)]; rfl
  rw [e, BitVec.allOnes_xor, BitVec.toNat_not, BitVec.toNat_ofNat, Nat.mod_eq_of_lt (by omega)]

set_option maxRecDepth 100000 in
set_option maxHeartbeats 1000000 in
theorem rsum_any (A : Option Addr) (n c : Nat) (f : Nat → Nat) (w : World) (hr : Rd .u8 w A n f) (hf : ∀ j, j < n → f j < 256) (hn : n ≤ 4611686018427387904) :
    Calls Try.prog 89 #[.slice A n c] w fun e w' => e = .returned (.int .u32 (crcN f n : Nat)) ∧ w = w' := by
  have HR := Lib.hid hr
  have HF := Lib.hid hf
  clear hr hf
  go_enter Try.func89, Try.ntmps89
  go_wp2
  go_loop [4, 3] (fun v s => ∃ k : Nat, k ≤ n ∧ v = .int .i64 (k : Nat) ∧ s = .int .u32 (crcS f k : Nat)) (fun v _ => n - (intOf v).toNat)
  case atStart => exact ⟨0, Nat.zero_le _, rfl, rfl⟩
  case round =>
    obtain ⟨k, hk, rfl, rfl⟩ := hrel
    have hs : crcS f k < 4294967296 := crcS_lt k (fun j hj => HF.out j (by omega))
    have hc := crcS_ref f k
    have hE : crcN f k = 4294967295 ^^^ crcS f k := rfl
    generalize crcS f k = s at *
    have HC := Lib.hid hc
    have HE := Lib.hid hE
    clear hc hE
    by_cases hlt : k < n
    · have hfk := HF.out k hlt
      obtain ⟨ad, rfl, hcell⟩ := HR.out k hlt
      have hx1 : bits BinOp.xor IntKind.u32 (s : Int) (f k : Nat) = ((s ^^^ f k : Nat) : Int) := u32_xor_nat s (f k) hs (by omega)
      have hy : s ^^^ f k < 4294967296 := Nat.xor_lt_two_pow (n := 32) hs (by omega)
      have hfk' : (f k : Int) < 256 := by omega
      generalize s ^^^ f k = y at *
      have HCELL := Lib.hid hcell
      go_wp2
      clear hcell hx1 hfk hfk' hs
      go_loop [5, 3] (fun v t => ∃ i : Nat, i ≤ 8 ∧ v = .int .i64 (i : Nat) ∧ t = .int .u32 (shn i y : Nat)) (fun v _ => 8 - (intOf v).toNat)
      case atStart => exact ⟨0, Nat.zero_le _, rfl, rfl⟩
      case round =>
        obtain ⟨i, hi, rfl, rfl⟩ := hrel
        have ho := shn_out i y
        have hb : shn i y < 4294967296 := shn_lt i hy
        generalize hg : shn i y = z at *
        have HG := Lib.hid hg
        have HO := Lib.hid ho
        clear ho hg
        by_cases hi8 : i < 8
        · rcases Nat.mod_two_eq_zero_or_one z with h2 | h2
          · have hq : ((z : Int) % 2 == 1) = false := by rw [beq_eq_false_iff_ne]; omega
            have HS := Lib.hid (sh_even h2)
            clear h2
            go_wp2
            go_round
            case rel => exact ⟨i + 1, by omega, by go_num, by rw [HO.out, HS.out]; simp⟩
            case measure => simp [intOf]; omega
          · have hq : ((z : Int) % 2 == 1) = true := by rw [beq_iff_eq]; omega
            have HS := Lib.hid (sh_odd h2)
            have hx : bits BinOp.xor IntKind.u32 ((z : Int) / 2) 3988292384 = ((z / 2 ^^^ 3988292384 : Nat) : Int) := u32_poly (z / 2) (by omega)
            clear h2
            go_wp2
            go_round
            case rel => exact ⟨i + 1, by omega, by go_num, by rw [HO.out, HS.out]⟩
            case measure => simp [intOf]; omega
        · obtain rfl : i = 8 := by omega
          go_wp2
          go_round
          case rel => exact ⟨k + 1, by omega, by go_num, by rw [HC.out, HG.out]⟩
          case measure => simp [intOf]; omega
    · obtain rfl : k = n := by omega
      go_wp2
      go_ret
      exact ⟨ret_int (by rw [HE.out, turn_sub s hs]; omega), rfl⟩

end Go.Proofs.Yteeomidlnijfbaa
