/- Contracts: bits.Mul of 1 and a small number, slices.Repeat of one row, slices.Clone of rows, New. -/
import Derived.Test.YtldbnlmimjamnaaDc
import Derived.Test.YtldbnlmimjamnaaVr
import Derived.Deep.RegionLaw
import Derived.Laws.Bits64
namespace Go.Proofs.Ytldbnlmimjamnaa
open Go.RowKit

set_option maxHeartbeats 1000000 in
theorem mul64_one (n : Nat) (w : World) (hn : n < 4294967296) :
    Calls Try.prog 41 #[.int .u64 1, .int .u64 (n : Nat)] w fun e w' => e = .returned (.tuple #[.int .u64 0, .int .u64 (n : Nat)]) ∧ w = w' := by
  have h1 : (n : Int) % 4294967296 = n := by omega
  have h2 : (n : Int) / 4294967296 = 0 := by omega
  have b1 : bits BinOp.and IntKind.u64 1 4294967295 = 1 := by rfl
  have b0 : bits BinOp.and IntKind.u64 0 4294967295 = 0 := by rfl
  have bn : bits BinOp.and IntKind.u64 (n : Int) 4294967295 = n := by
    have := u64_and_nat n 4294967295 (by omega) (by decide)
    rw [Nat.and_two_pow_sub_one_eq_mod n 32, Nat.mod_eq_of_lt (by omega)] at this
    exact this
  go_enter Try.func41, Try.ntmps41
  go_wp2
  go_ret2
  exact ⟨rfl, rfl⟩
theorem mul_one (n : Nat) (w : World) (hn : n < 4294967296) :
    Calls Try.prog 37 #[.int .u64 1, .int .u64 (n : Nat)] w fun e w' => e = .returned (.tuple #[.int .u64 0, .int .u64 (n : Nat)]) ∧ w = w' := by
  go_enter Try.func37, Try.ntmps37
  go_wp2_with (go_at_call 41; refine (mul64_one n _ hn).mono ?_; rintro e w' ⟨rfl, rfl⟩)
  go_ret2
  exact ⟨rfl, rfl⟩

theorem rows_info : (Try.prog.info? 31).map (fun i => (i.zero, i.size, i.bytes)) = some (some (.slice none 0 0), 1, 24) := by kernel_rfl
theorem rows_size : (Try.prog.info? 31).map (·.size) = some 1 := by kernel_rfl
theorem el35 : Try.prog.underlying 35 = some (.slice (Try.prog.elem 35)) := by kernel_rfl
theorem sz35 (w : World) : (sizeOf (Try.prog.elem 35)).run Try.prog w = .ok 1 w := by kernel_rfl
theorem sl35_l (g n c k : Nat) (hk : k < n) (hc : n ≤ c) (w : World) :
    (Instr.slice 35 (.slice (some ⟨g, 0, none⟩) n c) (some (.int .i64 k)) none none).run Try.prog w = .ok (.slice (some ⟨g, k, none⟩) (n - k) (c - k)) w := by
  rw [run_slice_l w 35 (some ⟨g, 0, none⟩) n c el35 .i64 k (by omega) (by omega), sz35]
  simp only [Result.andThen, sliced, Int.toNat_natCast, Nat.mul_one]
  rw [if_neg (by omega)]
  simp only [Option.map_some, add_mk, Nat.zero_add]
theorem sl35_h (g n c k : Nat) (hk : k ≤ c) (h0 : 0 < c) (w : World) :
    (Instr.slice 35 (.slice (some ⟨g, 0, none⟩) n c) none (some (.int .i64 k)) none).run Try.prog w = .ok (.slice (some ⟨g, 0, none⟩) k c) w := by
  rw [run_slice_h w 35 (some ⟨g, 0, none⟩) n c el35 .i64 k (by omega) (by omega), sz35]
  simp only [Result.andThen, sliced, Int.toNat_natCast, Nat.zero_mul, Nat.sub_zero]
  rw [if_neg (by omega)]
  rfl

/-- n times the one row. -/
def RepPost (w w' : World) (e : Ending) (n : Nat) (v0 : Value) : Prop :=
  ∃ g, e = .returned (.slice (some ⟨g, 0, none⟩) n n) ∧ w.heap.size ≤ g ∧ w'.rowIs g 31 n (fun _ => v0) ∧ Below w.heap.size w w'
set_option maxHeartbeats 1000000 in
theorem repeat_any (g n : Nat) (v0 : Value) (w : World) (h1 : 1 ≤ n) (h2 : n ≤ 512) (hc : w.cell? ⟨g, 0, none⟩ = some v0) (hv : v0.oneCell' = true) :
    Calls Try.prog 25 #[.slice (some ⟨g, 0, none⟩) 1 1, .int .i64 (n : Nat)] w fun e w' => RepPost w w' e n v0 := by
  have HC := Lib.hid hc
  have HV := Lib.hid hv
  have QM := Lib.hid (show 1 = Nat.min 1 n from by show 1 = min 1 n; omega)
  have qf : 0 + 1 ≤ n := by omega
  have QS := Lib.hid (fun (w1 : World) (hb1 : Below w.heap.size w w1) => show ∀ j, j < 1 → w1.cell? ((⟨g, 0, none⟩ : Addr).add j) = some v0 from fun j hj => by
    obtain rfl : j = 0 := by omega
    exact cell_later hb1 hc)
  clear hc hv
  go_enter Try.func25, Try.ntmps25
  go_wp2_with (first
    | (go_at_call 37; refine (mul_one n _ (by omega)).mono ?_; rintro e w' ⟨rfl, rfl⟩)
    | (at_make; refine wpList_make_rowIs rfl _ _ 35 rfl 31 (.slice none 0 0) 24 Try.underlying35 rows_info rfl .i64 .i64 _ _ n rfl rfl rfl rfl (by omega) (by omega) ?_; intro w1 hrow1 hb1 hs1)
    | (with_reducible refine wpList_copy_rowIs rfl (.tmp 31) (.tmp 32) 35 35 rfl 31 Try.underlying35 rows_size _ 0 n n ⟨g, 0, none⟩ 1 1 rfl rfl 31 n _ hrow1 (fun _ => v0) 1 QM.out (QS.out _ hb1) (fun _ _ => HV.out) qf ?_
       intro w2 hrow2 hg2 hs2))
  have HR2 := Lib.hid (show w2.rowIs w.heap.size 31 n (splV (fun _ => .slice none 0 0) 0 1 (fun _ => v0)) from hrow2)
  have HB2 := Lib.hid (show Below w.heap.size w w2 from hb1.grown hg2 (by omega) fun k hk => by cases hk; exact Nat.le_refl _)
  clear hrow1 hrow2 hg2 hs2 hb1 hs1 QS qf QM
  go_loopw [8] (fun v wr => ∃ (k : Nat) (V : Nat → Value), 1 ≤ k ∧ k ≤ n ∧ v = .int .i64 k ∧ wr.rowIs w.heap.size 31 n V ∧ (∀ j, j < k → V j = v0) ∧ Below w.heap.size w wr) (fun v _ => n - (intOf v).toNat)
  case atStart => exact ⟨1, _, Nat.le_refl _, h1, rfl, HR2.out, fun j hj => by
    obtain rfl : j = 0 := by omega
    rfl, HB2.out⟩
  case round =>
    obtain ⟨k, V, hk1, hk, rfl, hrow, hall, hbl⟩ := hrel
    have HROW := Lib.hid hrow
    have HALL := Lib.hid hall
    have HBL := Lib.hid hbl
    have hs := hbl.size
    clear hrow hall hbl HR2 HB2
    by_cases hlt : k < n
    · have hsl1 := sl35_l w.heap.size n n k hlt (Nat.le_refl _)
      have hsl2 := sl35_h w.heap.size n n k hk (by omega)
      obtain ⟨m, hm⟩ : ∃ m, m = Nat.min k (n - k) := ⟨_, rfl⟩
      have hm' : m = min k (n - k) := hm
      have hm1 : 1 ≤ m := by omega
      have hm2 : k + m ≤ n := by omega
      have hm3 : m ≤ k := by omega
      have HWR := Lib.hid (show IntKind.i64.wrap ((k : Int) + (m : Int)) = ((k + m : Nat) : Int) from by rw [IntWalk.i64_in _ (by omega)]; omega)
      have HM := Lib.hid hm
      have QS := Lib.hid (show ∀ j, j < m → wr.drew.cell? ((⟨w.heap.size, 0, none⟩ : Addr).add j) = some (V j) from fun j hj => by
        rw [add_mk, Nat.zero_add]; exact HROW.out.drew.cell (by omega))
      have QV := Lib.hid (show ∀ j, j < m → (V j).oneCell' = true from fun j hj => by rw [HALL.out j (by omega)]; exact HV.out)
      clear hm hm'
      go_wp2
      go_region_law (
        refine step_copy_rowIs rfl (.tmp 41) (.tmp 44) 35 35 rfl 31 Try.underlying35 rows_size w.heap.size k (n - k) (n - k) ⟨w.heap.size, 0, none⟩ k n (by simp [Act.eval, Act.put]) (by simp [Act.eval, Act.put]) 31 n V HROW.out.drew V m HM.out QS.out QV.out hm2 ?_
        intro w3 hrow3 hg3 hs3)
      all_goals
        have HR3 := Lib.hid hrow3
        have HB3 := Lib.hid (show Below w.heap.size w w3 from HBL.out.drew.grown hg3 hs fun k hk => by cases hk; exact Nat.le_refl _)
        clear hrow3 hg3 hs3 hsl1 hsl2
        simp only [Act.put, List.setIfInBounds_toArray, List.set_cons_zero, List.set_cons_succ, List.getElem_toArray, List.getElem_cons_succ, List.getElem_cons_zero]
        rw [HWR.out]
        go_wp2
        go_roundw
        case rel => exact ⟨k + m, _, by omega, hm2, rfl, HR3.out, fun j hj => by
          unfold splV
          split
          · exact HALL.out _ (by omega)
          · exact HALL.out _ (by omega), HB3.out⟩
        case measure => simp [intOf]; omega
    · obtain rfl : k = n := by omega
      go_wp2
      go_ret
      exact ⟨_, rfl, Nat.le_refl _, HROW.out.congr HALL.out, HBL.out⟩
end Go.Proofs.Ytldbnlmimjamnaa
