/- Contracts of the document's own numbers: sub. -/
import Derived.Test.YtonjecddhbckgaaRc
namespace Go.Proofs.Ytonjecddhbckgaa
open Go.RowKit

def RsubInv (wr : World) (base : Nat) (v : Value) (i cy : Nat) (F f h : Nat → Nat) : Prop :=
  Own .i64 3 wr base v i F ∧ (∀ j, j < i → F j < 256) ∧ cy ≤ 1 ∧ num 256 F i + num 256 h i = num 256 f i + cy * 256 ^ i

theorem RsubInv.step {w2 : World} {base i cy r q : Nat} {v2 : Value} {F f h : Nat → Nat} (h1 : Own .i64 3 w2 base v2 (i + 1) (appF F i (fun _ => r))) (h2 : ∀ j, j < i → F j < 256) (h3 : num 256 F i + num 256 h i = num 256 f i + cy * 256 ^ i)
    (hs : r + h i + cy = f i + 256 * q) (hr : r < 256) (hq : q ≤ 1) : RsubInv w2 base v2 (i + 1) q (appF F i (fun _ => r)) f h := by
  refine ⟨h1, fun j hj => ?_, hq, ?_⟩
  · simp only [appF]
    split
    · exact h2 j ‹_›
    · omega
  · rw [num_succ, num_succ, num_succ, num_congr (f' := F) i (fun j hj => by simp [appF, hj])]
    simp only [appF, Nat.lt_irrefl, if_false]
    have e3 : (r + h i + cy) * 256 ^ i = (f i + 256 * q) * 256 ^ i := by rw [hs]
    rw [Nat.add_mul, Nat.add_mul, Nat.add_mul] at e3
    rw [Nat.pow_succ]
    have e1 : q * (256 ^ i * 256) = (256 * q) * 256 ^ i := by rw [Nat.mul_comm (256 ^ i), ← Nat.mul_assoc, Nat.mul_comm q]
    rw [e1]
    omega

set_option maxHeartbeats 1000000 in
theorem rsub_any (A : Option Addr) (n c : Nat) (f : Nat → Nat) (B : Option Addr) (m d : Nat) (h : Nat → Nat) (w : World) (ha : Rd .i64 w A n f) (hn : n ≤ 1099511627776) (hf : ∀ j, j < n → f j < 256)
    (hb : Rd .i64 w B m h) (hh : ∀ j, j < m → h j < 256) (hmn : m ≤ n) (hle : num 256 h m ≤ num 256 f n) :
    Calls Try.prog 40 #[.slice A n c, .slice B m d] w fun e w' => DigPost w w' e (num 256 f n - num 256 h m) := by
  have HA := Lib.hid ha
  have HB := Lib.hid hb
  have HF := Lib.hid hf
  have HH := Lib.hid hh
  have HLE := Lib.hid hle
  clear ha hb hf hh hle
  go_enter Try.func40, Try.ntmps40
  go_wp2
  go_loopw [5, 6, 7] (fun v5 v6 v7 wr => ∃ i cy F, i ≤ n ∧ v6 = .int .i64 (cy : Nat) ∧ v7 = .int .i64 (i : Nat) ∧ w.heap.size ≤ wr.heap.size ∧ RsubInv wr w.heap.size v5 i cy F f (dg h m) ∧ Below w.heap.size w wr) (fun _ _ v7 _ => n - (intOf v7).toNat)
  case atStart => exact ⟨0, 0, fun _ => 0, by omega, rfl, rfl, Nat.le_refl _, ⟨Own.nil, fun j hj => absurd hj (by omega), by omega, rfl⟩, Below.refl _ _⟩
  case round =>
    obtain ⟨i, cy, F, hi, rfl, rfl, hws, hinv, hbl⟩ := hrel
    by_cases hlt : i < n
    · have DB := Lib.hid (fun wq hq => rat_dg B m d i h wq hq)
      obtain ⟨ad, rfl, hcell⟩ := (HA.out.below hbl) i hlt
      have RB := HB.out.below hbl
      have hx := HF.out i hlt
      have hy := dg_lt HH.out i
      obtain ⟨o1, o2, hcy, o3⟩ := hinv
      have HST : Hid (∀ w2 v2 r q, Own .i64 3 w2 w.heap.size v2 (i + 1) (appF F i (fun _ => r)) → r + dg h m i + cy = f i + 256 * q → r < 256 → q ≤ 1 → RsubInv w2 w.heap.size v2 (i + 1) q (appF F i (fun _ => r)) f (dg h m)) :=
        fun w2 v2 r q ho hs hr hq => RsubInv.step ho o2 o3 hs hr hq
      have O1 := Lib.hid o1
      clear o1 o2 o3
      generalize dg h m i = y at *
      generalize f i = x at *
      go_wp2
      go_quiet ((go_at_call 61; exact Calls.quiet_of_same (DB.out _ (by exact RB))))
      have hbl2 := Below.drewN_ hbl nq
      have O2 : Hid (Own .i64 3 (wr.drewN nq) w.heap.size u5 i F) := O1.out
      have hws2 : w.heap.size ≤ (wr.drewN nq).heap.size := hws
      generalize wr.drewN nq = w3 at *
      by_cases hneg : x < y + cy
      · have g1 : (x : Int) - (y : Int) - (cy : Int) < 0 := by omega
        have hrd1 : Rd .i64 (w3.alloc (.cells #[.int .i64 ((x : Int) - (y : Int) - (cy : Int) + 256)] 3)) (some ⟨w3.heap.size, 0, none⟩) 1 (fun _ => x + 256 - y - cy) := by
          have := (row_one (K := .i64) (t := 3) w3 (x + 256 - y - cy)).rd0 (Nat.le_refl _)
          rw [show ((x + 256 - y - cy : Nat) : Int) = (x : Int) - (y : Int) - (cy : Int) + 256 from by omega] at this
          exact this
        have hown1 := O2.out.alloc (.cells #[.int .i64 ((x : Int) - (y : Int) - (cy : Int) + 256)] 3)
        have hbn := below_new w3 (.cells #[.int .i64 ((x : Int) - (y : Int) - (cy : Int) + 256)] 3)
        go_wp2_with (at_builtin; refine wpList_app rfl (.tmp 29) (.tmp 31) 47 rfl .i64 3 Try.underlying47 8 i64_info (by omega) w.heap.size u5 i F rfl hown1 (some ⟨w3.heap.size, 0, none⟩) 1 1 (fun _ => x + 256 - y - cy) rfl hrd1 (fun h => by cases h) (by omega) (by simp; omega) ?_; intro v2 w2 hown2 hb2 hsz2)
        have HS := Lib.hid (HST.out w2 v2 _ 1 hown2 (by omega) (by omega) (by omega))
        have HB2 := Lib.hid ((hbl2.trans (hbn.mono hws2)).trans hb2)
        have hws3 : w.heap.size ≤ w2.heap.size := by simp at hsz2; omega
        clear hown2 hb2 hsz2 hbn hown1 hrd1 hbl2
        go_wp2
        go_roundw
        case rel => exact ⟨i + 1, 1, _, by omega, rfl, by go_num, hws3, HS.out, HB2.out⟩
        case measure => simp [intOf]; omega
      · have g1 : 0 ≤ (x : Int) - (y : Int) - (cy : Int) := by omega
        have hrd1 : Rd .i64 (w3.alloc (.cells #[.int .i64 ((x : Int) - (y : Int) - (cy : Int))] 3)) (some ⟨w3.heap.size, 0, none⟩) 1 (fun _ => x - y - cy) := by
          have := (row_one (K := .i64) (t := 3) w3 (x - y - cy)).rd0 (Nat.le_refl _)
          rw [show ((x - y - cy : Nat) : Int) = (x : Int) - (y : Int) - (cy : Int) from by omega] at this
          exact this
        have hown1 := O2.out.alloc (.cells #[.int .i64 ((x : Int) - (y : Int) - (cy : Int))] 3)
        have hbn := below_new w3 (.cells #[.int .i64 ((x : Int) - (y : Int) - (cy : Int))] 3)
        go_wp2_with (at_builtin; refine wpList_app rfl (.tmp 29) (.tmp 31) 47 rfl .i64 3 Try.underlying47 8 i64_info (by omega) w.heap.size u5 i F rfl hown1 (some ⟨w3.heap.size, 0, none⟩) 1 1 (fun _ => x - y - cy) rfl hrd1 (fun h => by cases h) (by omega) (by simp; omega) ?_; intro v2 w2 hown2 hb2 hsz2)
        have HS := Lib.hid (HST.out w2 v2 _ 0 hown2 (by omega) (by omega) (by omega))
        have HB2 := Lib.hid ((hbl2.trans (hbn.mono hws2)).trans hb2)
        have hws3 : w.heap.size ≤ w2.heap.size := by simp at hsz2; omega
        clear hown2 hb2 hsz2 hbn hown1 hrd1 hbl2
        go_wp2
        go_roundw
        case rel => exact ⟨i + 1, 0, _, by omega, rfl, by go_num, hws3, HS.out, HB2.out⟩
        case measure => simp [intOf]; omega
    · obtain rfl : i = n := by omega
      obtain ⟨o1, o2, hcy, o3⟩ := hinv
      rw [num_dg (f := h) (by omega)] at o3
      have hc0 : cy = 0 := by
        have h1 := num_lt (B := 256) (f := F) (by omega) i o2
        have h2 := HLE.out
        rcases Nat.eq_zero_or_pos cy with h | h
        · exact h
        · obtain rfl : cy = 1 := by omega
          omega
      subst hc0
      have O3 : Hid (num 256 F i = num 256 f i - num 256 h m) := by show _ = _; omega
      have O2 := Lib.hid o2
      have HV : Hid (∃ A c, u5 = .slice A i c ∧ i ≤ c ∧ (A = none → c = 0)) := by
        rcases o1.form with ⟨rfl, h⟩ | ⟨g, c, rfl, _, hc⟩
        · exact ⟨none, 0, by rw [h], by omega, fun _ => rfl⟩
        · exact ⟨_, c, rfl, hc, fun h => by cases h⟩
      obtain ⟨A2, c2, rfl, hc2, hnil⟩ := HV.out
      have hrd := o1.rd_
      have HN := Lib.hid hnil
      clear o1 o2 o3 hnil HV
      go_wp2_with fail
      refine (rcut_any A2 i c2 F wr hrd hc2 (by omega)).mono ?_
      rintro e w2 ⟨rfl, hw⟩
      subst w2
      go_wp2
      go_ret
      have ht := tlen_le (f := F) i
      exact ⟨_, rfl, ⟨A2, _, c2, F, rfl, by omega, HN.out, hrd.less ht, fun j hj => O2.out j (by omega), tlen_trimmed _, by rw [num_tlen]; exact O3.out⟩, hbl⟩
end Go.Proofs.Ytonjecddhbckgaa
