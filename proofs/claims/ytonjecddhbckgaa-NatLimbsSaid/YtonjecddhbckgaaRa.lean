/- Contracts of the document's own numbers: cut, at, Digits. -/
import Derived.Test.YtonjecddhbckgaaCk
namespace Go.Proofs.Ytonjecddhbckgaa
open Go.RowKit

theorem i64_info : (Try.prog.info? 3).map (fun i => (i.zero, i.size, i.bytes)) = some (some (.int .i64 0), 1, 8) := by kernel_rfl
theorem i64_size : (Try.prog.info? 3).map (·.size) = some 1 := by kernel_rfl

/-- A base-256 number's digits, trimmed. -/
def IsDig (w : World) (v : Value) (N : Nat) : Prop :=
  ∃ A n c f, v = .slice A n c ∧ n ≤ c ∧ (A = none → c = 0) ∧ Rd .i64 w A n f ∧ (∀ j, j < n → f j < 256) ∧ Trimmed f n ∧ num 256 f n = N
theorem IsDig.below {w w' : World} {v : Value} {N : Nat} (h : IsDig w v N) (hb : Below w.heap.size w w') : IsDig w' v N := by
  obtain ⟨A, n, c, f, h1, h2, h3, h4, h5⟩ := h
  exact ⟨A, n, c, f, h1, h2, h3, h4.below hb, h5⟩
def DigPost (w w' : World) (e : Ending) (N : Nat) : Prop := ∃ v, e = .returned v ∧ IsDig w' v N ∧ Below w.heap.size w w'

set_option maxHeartbeats 400000 in
theorem rcut_any (A : Option Addr) (n c : Nat) (f : Nat → Nat) (w : World) (hr : Rd .i64 w A n f) (hc : n ≤ c) (hm : n ≤ 4611686018427387904) :
    Calls Try.prog 58 #[.slice A n c] w fun e w' => e = .returned (.slice A (tlen f n) c) ∧ w' = w := by
  go_enter Try.func58, Try.ntmps58
  go_wp2
  go_loop [0] (fun v => ∃ k : Nat, k ≤ n ∧ v = .slice A k c ∧ tlen f k = tlen f n) (fun v => match v with | .slice _ k _ => k | _ => 0)
  case atStart => exact ⟨n, Nat.le_refl _, rfl, rfl⟩
  case round =>
    obtain ⟨k, hk, rfl, ht⟩ := hrel
    have HR := Lib.hid hr
    have HT := Lib.hid ht
    clear hr ht
    by_cases h0 : k = 0
    · subst h0
      go_wp2
      go_ret
      rw [← HT.out]
      exact ⟨rfl, rfl⟩
    · have hp : 0 < k := by omega
      obtain ⟨ad, rfl, hcell⟩ := HR.out (k - 1) (by omega)
      have htl : tlen f k = if f (k - 1) = 0 then tlen f (k - 1) else k := by
        obtain ⟨i, rfl⟩ : ∃ i, k = i + 1 := ⟨k - 1, by omega⟩
        simp [tlen]
      by_cases hx : f (k - 1) = 0
      · rw [hx] at hcell
        rw [if_pos hx] at htl
        have HL : Hid (tlen f (k - 1) = tlen f n) := by show _ = _; rw [← htl]; exact HT.out
        clear hx h0 htl
        go_wp2
        go_round
        case rel => exact ⟨k - 1, by omega, rfl, HL.out⟩
        case measure => simp; omega
      · have g2 : ((f (k - 1) : Int) == 0) = false := by
          rw [beq_eq_false_iff_ne]; omega
        rw [if_neg hx] at htl
        have HL : Hid (k = tlen f n) := by show _ = _; rw [← htl]; exact HT.out
        clear hx h0 htl
        go_wp2
        go_ret
        have e := HL.out
        exact ⟨by rw [← e]; rfl, rfl⟩

set_option maxHeartbeats 400000 in
theorem rat_any (A : Option Addr) (n c i : Nat) (f : Nat → Nat) (w : World) (hr : Rd .i64 w A n f) :
    Calls Try.prog 61 #[.slice A n c, .int .i64 (i : Nat)] w fun e w' => e = .returned (.int .i64 ((if i < n then f i else 0 : Nat))) ∧ w' = w := by
  by_cases h : i < n
  · obtain ⟨ad, rfl, hcell⟩ := hr i h
    rw [if_pos h]
    clear hr
    go_enter Try.func61, Try.ntmps61
    go_wp2
    go_ret
    exact ⟨rfl, rfl⟩
  · rw [if_neg h]
    clear hr
    go_enter Try.func61, Try.ntmps61
    go_wp2
    go_ret
    exact ⟨rfl, rfl⟩

theorem pow_limb (i : Nat) : (4294967296 : Nat) ^ i = 256 ^ (4 * i) := by rw [Nat.pow_mul]

/-- What Digits keeps: the first limbs' digits, and what is left of the next one. -/
def DigitsInv (wr : World) (base : Nat) (v : Value) (n X N : Nat) : Prop :=
  ∃ F, Own .i64 3 wr base v n F ∧ (∀ j, j < n → F j < 256) ∧ num 256 F n + X * 256 ^ n = N

theorem DigitsInv.step {w2 : World} {base n X N : Nat} {v2 : Value} {F : Nat → Nat} (h1 : Own .i64 3 w2 base v2 (n + 1) (appF F n (fun _ => X % 256))) (h2 : ∀ j, j < n → F j < 256) (h3 : num 256 F n + X * 256 ^ n = N) :
    DigitsInv w2 base v2 (n + 1) (X / 256) N := by
  refine ⟨_, h1, fun j hj => ?_, ?_⟩
  · simp only [appF]
    split
    · exact h2 j ‹_›
    · omega
  · rw [num_succ, num_congr (f' := F) n (fun j hj => by simp [appF, hj])]
    simp only [appF, Nat.lt_irrefl, if_false]
    rw [Nat.pow_succ, ← h3, Nat.add_assoc]
    congr 1
    have e : X = 256 * (X / 256) + X % 256 := (Nat.div_add_mod X 256).symm
    generalize X / 256 = q at *
    generalize X % 256 = r at *
    subst e
    rw [Nat.add_mul, Nat.add_comm, Nat.mul_comm (256 ^ n) 256, ← Nat.mul_assoc, Nat.mul_comm q 256]

set_option maxHeartbeats 1000000 in
theorem digits_any (A : Option Addr) (n c : Nat) (f : Nat → Nat) (w : World) (ha : Rd .u32 w A n f) (hc : n ≤ c) (hn : n ≤ 1099511627776) (hf : ∀ j, j < n → f j < 4294967296) :
    Calls Try.prog 41 #[.slice A n c] w fun e w' => DigPost w w' e (num 4294967296 f n) := by
  have HA := Lib.hid ha
  have HF := Lib.hid hf
  clear ha hf
  go_enter Try.func41, Try.ntmps41
  go_wp2
  go_loopw [3, 4] (fun v3 v4 wr => ∃ i, i ≤ n ∧ v4 = .int .i64 (i : Nat) ∧ w.heap.size ≤ wr.heap.size ∧ DigitsInv wr w.heap.size v3 (4 * i) 0 (num 4294967296 f i) ∧ Below w.heap.size w wr) (fun _ v4 _ => n - (intOf v4).toNat)
  case atStart => exact ⟨0, Nat.zero_le _, rfl, Nat.le_refl _, ⟨fun _ => 0, Own.nil, fun j hj => absurd hj (by omega), rfl⟩, Below.refl _ _⟩
  case round =>
    obtain ⟨i, hi, rfl, hws, hinv, hbl⟩ := hrel
    by_cases hlt : i < n
    · obtain ⟨ad, rfl, hcell⟩ := (HA.out.below hbl) i hlt
      have hfi := HF.out i hlt
      have HI : Hid (DigitsInv wr w.heap.size u3 (4 * i + 0) (f i / 256 ^ 0) (num 4294967296 f (i + 1))) := by
        obtain ⟨F, o1, o2, o3⟩ := hinv
        refine ⟨F, o1, o2, ?_⟩
        rw [num_succ, pow_limb, ← o3]
        simp
      have HB := Lib.hid hbl
      clear hinv hbl
      go_wp2
      obtain ⟨wo, rfl⟩ : ∃ wo : World, wo = wr := ⟨_, rfl⟩
      go_loopw [3, 5, 6] (fun v3 v5 v6 wr => ∃ k X, k ≤ 4 ∧ X = f i / 256 ^ k ∧ v5 = .int .u32 (X : Nat) ∧ v6 = .int .i64 (k : Nat) ∧ w.heap.size ≤ wr.heap.size ∧ DigitsInv wr w.heap.size v3 (4 * i + k) X (num 4294967296 f (i + 1)) ∧ Below w.heap.size w wr) (fun _ _ v6 _ => 4 - (intOf v6).toNat)
      case atStart => exact ⟨0, f i, by omega, by simp, rfl, rfl, hws, by simpa using HI.out, HB.out⟩
      case round =>
        clear HI HB hfi
        obtain ⟨k, X, hk, hX, rfl, rfl, hws2, hinv, hbl⟩ := hrel
        have hfi2 := HF.out i hlt
        have hX1 : X < 4294967296 := by rw [hX]; exact Nat.lt_of_le_of_lt (Nat.div_le_self _ _) hfi2
        by_cases hk4 : k < 4
        · have HX : Hid (X / 256 = f i / 256 ^ (k + 1)) := by show _ = _; rw [hX, Nat.div_div_eq_div_mul, Nat.pow_succ]
          clear hX hfi2 hcell
          obtain ⟨F, o1, o2, o3⟩ := hinv
          have hrd1 : Rd .i64 (wr.alloc (.cells #[.int .i64 ((X : Int) % 256)] 3)) (some ⟨wr.heap.size, 0, none⟩) 1 (fun _ => X % 256) := (row_one wr (X % 256)).rd0 (Nat.le_refl _)
          have hown1 := o1.alloc (.cells #[.int .i64 ((X : Int) % 256)] 3)
          have hbn := below_new wr (.cells #[.int .i64 ((X : Int) % 256)] 3)
          have O2 := Lib.hid o2
          have O3 := Lib.hid o3
          clear o1 o2 o3
          go_wp2_with (at_builtin; refine wpList_app rfl (.tmp 21) (.tmp 25) 47 rfl .i64 3 Try.underlying47 8 i64_info (by omega) w.heap.size u3 (4 * i + k) F rfl hown1 (some ⟨wr.heap.size, 0, none⟩) 1 1 (fun _ => X % 256) rfl hrd1 (fun h => by cases h) (by omega) (by simp; omega) ?_; intro v2 w2 hown2 hb2 hsz2)
          have HS := Lib.hid (DigitsInv.step hown2 O2.out O3.out)
          have HB := Lib.hid ((hbl.trans (hbn.mono hws2)).trans hb2)
          have hws3 : w.heap.size ≤ w2.heap.size := by simp at hsz2; omega
          clear hown2 hb2 hsz2 hbn hown1 hrd1 hbl
          go_wp2
          go_roundw
          case rel => exact ⟨k + 1, X / 256, by omega, HX.out, by go_num, by go_num, hws3, HS.out, HB.out⟩
          case measure => simp [intOf]; omega
        · obtain rfl : k = 4 := by omega
          have hX0 : X = 0 := by rw [hX]; exact Nat.div_eq_of_lt (by simpa using hfi2)
          subst hX0
          have HI : Hid (DigitsInv wr w.heap.size u3 (4 * (i + 1)) 0 (num 4294967296 f (i + 1))) := hinv
          clear hinv hX hfi2 hcell
          go_wp2
          go_roundw
          case rel => exact ⟨i + 1, by omega, by go_num, hws2, HI.out, hbl⟩
          case measure => simp [intOf]; omega
    · obtain rfl : i = n := by omega
      obtain ⟨F, o1, o2, o3⟩ := hinv
      have O3 : Hid (num 256 F (4 * i) = num 4294967296 f i) := by show _ = _; simpa using o3
      have O2 := Lib.hid o2
      have HV : Hid (∃ A c, u3 = .slice A (4 * i) c ∧ 4 * i ≤ c ∧ (A = none → c = 0)) := by
        rcases o1.form with ⟨rfl, h⟩ | ⟨g, c, rfl, _, hc⟩
        · exact ⟨none, 0, by rw [h], by omega, fun _ => rfl⟩
        · exact ⟨_, c, rfl, hc, fun h => by cases h⟩
      obtain ⟨A2, c2, rfl, hc2, hnil⟩ := HV.out
      have hrd := o1.rd_
      have HN := Lib.hid hnil
      clear o1 o2 o3 hnil HV
      go_wp2_with fail
      refine (rcut_any A2 (4 * i) c2 F wr hrd hc2 (by omega)).mono ?_
      rintro e w2 ⟨rfl, hw⟩
      subst w2
      go_wp2
      go_ret
      have ht := tlen_le (f := F) (4 * i)
      exact ⟨_, rfl, ⟨A2, _, c2, F, rfl, by omega, HN.out, hrd.less ht, fun j hj => O2.out j (by omega), tlen_trimmed _, by rw [num_tlen]; exact O3.out⟩, hbl⟩
end Go.Proofs.Ytonjecddhbckgaa
