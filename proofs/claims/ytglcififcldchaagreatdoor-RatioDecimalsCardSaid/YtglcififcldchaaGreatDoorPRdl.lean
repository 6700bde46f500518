/- RatioDecimals: the walk. -/
import Derived.Test.YtglcififcldchaaGreatDoorPRcd
import Derived.Test.YtglcififcldchaaGreatDoorPRm
import Derived.Test.YtglcififcldchaaGreatDoorPRcb
import Derived.Test.YtglcififcldchaaGreatDoorPRra
namespace Go.Proofs.YtglcififcldchaaGreatDoor
open Go.RowKit
attribute [local go_sem ↓] Go.wp_at_zero Go.wp_at_succ
set_option linter.unusedVariables false

def digs (R : Nat) : Nat → List UInt8
  | 0 => []
  | i + 1 => UInt8.ofNat (48 + R / 10 ^ i % 10) :: digs R i
theorem digs_length (R : Nat) : ∀ i, (digs R i).length = i
  | 0 => rfl
  | i + 1 => by rw [digs, List.length_cons, digs_length R i]
theorem digs_dg (R : Nat) : ∀ i, Dg (digs R i)
  | 0 => fun c hc => by cases hc
  | i + 1 => fun c hc => by
    rw [digs, List.mem_cons] at hc
    rcases hc with rfl | hc
    · have : R / 10 ^ i % 10 < 10 := Nat.mod_lt _ (by omega)
      rw [UInt8.toNat_ofNat']
      omega
    · exact digs_dg R i c hc
theorem lv_digs (R : Nat) : ∀ i, lv (digs R i) = R % 10 ^ i
  | 0 => by rw [Nat.pow_zero, Nat.mod_one]; rfl
  | i + 1 => by
    have h : R / 10 ^ i % 10 < 10 := Nat.mod_lt _ (by omega)
    rw [digs, lv, lv_digs R i, digs_length, Nat.mod_pow_succ, UInt8.toNat_ofNat', Nat.mod_eq_of_lt (by omega), Nat.add_sub_cancel_left, Nat.mul_comm]
    omega
theorem decS_small {N : Nat} (h : N < 10 ^ 10) : (decS N).size ≤ 10 := by
  rcases Nat.eq_zero_or_pos N with rfl | h0
  · rw [decS_zero]; decide
  · obtain ⟨k, k0, k1, k2, e⟩ := decS_strF h0
    have hk : k ≤ 10 := by
      rcases Nat.lt_or_ge 10 k with h1 | h1
      · have := Nat.pow_le_pow_right (show 0 < 10 by omega) (show 10 ≤ k - 1 by omega)
        omega
      · exact h1
    rw [e]
    have : (strF k (fun j => dig N (k - 1 - j))).size = k := by simp [strF, ByteArray.size]
    omega
theorem rof_is {N D : Int} {Q : Rat} {w : World} (hQ : Rat.divInt N D = Q) (hD : D ≠ 0) (h1 : -9223372036854775808 ≤ N) (h2 : N ≤ 9223372036854775807) (h3 : -9223372036854775808 ≤ D) (h4 : D ≤ 9223372036854775807) : Calls Tryz.prog 30 #[.int .i64 N, .int .i64 D] w fun e w' => RatOfPost w w' e Q true := by
  have := rof3_q N D w h1 h2 h3 h4
  rw [hQ, decide_eq_true hD] at this
  exact this
theorem irqD {k : Nat} {w : World} {v : Value} {q : Rat} (hb : BQ k q) (h : IsRat w v q) : LimQ k w v q := h.limQ hb
theorem text_whole (W : Nat) : textQ (Rat.divInt (W : Int) 1) = decS W := by
  obtain ⟨h1, h2⟩ := divInt_cop (X := (W : Int)) (Y := 1) (by omega) (Int.gcd_one)
  unfold textQ
  rw [if_pos (by omega), h1]
  unfold textI
  rw [if_neg (by omega), Int.natAbs_natCast]
theorem parse_num {b : Bool} {W R j D : Nat} {N : Int} {S T : ByteArray} {Q : Rat} (hS : IsNum S) (hSs : S.size ≤ 10) (hv : lv S.data.toList = W) (hT : T.data.toList = digs R j) (hj1 : 1 ≤ j) (hj9 : j ≤ 9) (hD : 10 ^ j = D) (hR : R < D) (hN : sg b (D * W + R) = N) (hQ : Rat.divInt N D = Q) (w : World) :
    Calls Tryz.prog 39 #[.string (preS b ++ S ++ ⟨#[46]⟩ ++ T)] w (fun e w' => RatOfPost w w' e Q true) ∧
    Calls Tryz.prog 39 #[.string (preS b ++ S ++ ⟨#[46]⟩ ++ T ++ ⟨#[48, 48]⟩)] w (fun e w' => RatOfPost w w' e Q true) := by
  have hTs : T.size = j := by rw [Lib.size_eq, hT, digs_length]
  have hTd : Dg T.data.toList := by rw [hT]; exact digs_dg R j
  have hTv : lv T.data.toList = R := by rw [hT, lv_digs, hD, Nat.mod_eq_of_lt hR]
  constructor
  · have h := parse_dec b S T w hS (by omega) hTd (by omega) (by omega)
    rw [hv, hTv, hTs, hD, Nat.mul_comm, hN, hQ] at h
    exact h
  · have hl : (T ++ (⟨#[48, 48]⟩ : ByteArray)).data.toList = T.data.toList ++ [48, 48] := by rw [ByteArray.toList_data_append]
    have hs : (T ++ (⟨#[48, 48]⟩ : ByteArray)).size = j + 2 := by rw [ByteArray.size_append, hTs]; rfl
    have hd : Dg (T ++ (⟨#[48, 48]⟩ : ByteArray)).data.toList := fun c hc => by
      rw [hl, List.mem_append] at hc
      rcases hc with hc | hc
      · exact hTd c hc
      · have : c = 48 := by simpa using hc
        subst this
        decide
    have h := parse_dec b S (T ++ ⟨#[48, 48]⟩) w hS (by omega) hd (by omega) (by omega)
    have e1 : lv (T.data.toList ++ [48, 48]) = R * 100 := by rw [lv_append, hTv]; rfl
    have e2 : W * (D * 100) + R * 100 = (D * W + R) * 100 := by rw [Nat.add_mul, Nat.mul_comm D W, Nat.mul_assoc]
    have e3 : sg b ((D * W + R) * 100) = N * 100 := by
      rw [← hN]
      unfold sg
      split <;> push_cast <;> omega
    have e4 : (((D * 100 : Nat)) : Int) = (D : Int) * 100 := by push_cast; rfl
    rw [hl, e1, hv, hs, Nat.pow_add, hD, show 10 ^ 2 = 100 from rfl, e2, e3, e4, Rat.divInt_mul_right (by omega), hQ, ← ByteArray.append_assoc] at h
    exact h
def DecInv (w1 ws : World) (R j : Nat) (T : ByteArray) : Prop := T.data.toList = digs R j ∧ Below w1.heap.size w1 ws
set_option maxRecDepth 100000 in
set_option maxHeartbeats 4000000 in
theorem decimals_any (N K : Int) (w : World) (h1 : -2147483648 ≤ N) (h2 : N ≤ 2147483647) (h3 : 0 ≤ K) (h4 : K ≤ 255) :
    Calls Tryz.prog 8 #[.int .i32 N, .int .u8 K] w fun e w' => e = .returned (.bool true) ∧ Below w.heap.size w w' := by
  go_enter Tryz.func8, Tryz.ntmps8
  go_wp2_with fail
  refine Calls.mono (awake3 _) ?_
  rintro e w1 ⟨rfl, hb1⟩
  have HB1 := Lib.hid hb1
  clear hb1
  go_wp2
  obtain ⟨p, hp⟩ : ∃ p : Nat, (p : Int) = 1 + K % 9 := ⟨(1 + K % 9).toNat, by omega⟩
  have hp1 : 1 ≤ p := by omega
  have hp9 : p ≤ 9 := by omega
  rw [← hp]
  clear hp h3 h4
  go_loopw [6, 7] (fun v6 v7 wr => ∃ (i : Nat), v7 = .int .i64 (i : Nat) ∧ i ≤ p ∧ v6 = .int .i64 ((10 ^ i : Nat) : Int) ∧ wr = w1) (fun _ v7 _ => p - (intOf v7).toNat)
  case atStart => exact ⟨0, rfl, Nat.zero_le _, rfl, rfl⟩
  case round =>
    obtain ⟨i, rfl, hi, rfl, rfl⟩ := hrel
    have hlim : 10 ^ i ≤ 10 ^ 9 := Nat.pow_le_pow_right (by omega) (by omega)
    have hpos : 0 < 10 ^ i := Nat.pow_pos (by omega)
    have hsuc : 10 ^ (i + 1) = 10 ^ i * 10 := Nat.pow_succ ..
    by_cases hlt : i < p
    · have hik : (i : Int) < (p : Int) := by omega
      generalize hD : 10 ^ i = D at *
      have hm : IntKind.i64.wrap ((D : Int) * 10) = (D : Int) * 10 := IntWalk.i64_in _ (by omega)
      go_wp2
      go_roundw
      case rel => exact ⟨i + 1, by go_num, by omega, by rw [hsuc]; simp, by simp⟩
      case measure => simp [intOf]; omega
    · obtain rfl : i = p := by omega
      generalize hD : 10 ^ i = D at *
      have HD := Lib.hid hD
      clear hD hsuc
      rcases Decidable.em (N < 0) with hneg | hneg
      ·
        have hN : N < 0 := hneg
        obtain ⟨M, hM⟩ : ∃ M : Nat, (M : Int) = -N := ⟨(-N).toNat, by omega⟩
        have hw1 : IntKind.i64.wrap (-N) = (M : Int) := by rw [hM]; exact IntWalk.i64_in _ (by omega)
        have hw2 : IntKind.i64.wrap (0 - N) = (M : Int) := by rw [show 0 - N = -N from by omega]; exact hw1
        have hM31 : M ≤ 2147483648 := by omega
        have HM := Lib.hid hM
        have hM0 : (0 : Int) ≤ (M : Int) := by omega
        have hD0 : (0 : Int) < (D : Int) := by omega
        have hDz : ((D : Int) == 0) = false := by rw [beq_eq_false_iff_ne]; omega
        have hDz2 : ¬ (D : Int) = 0 := by omega
        clear hM
        go_wp2
        have e1 : wrap64 ((M : Int) / (D : Int)) = ((M / D : Nat) : Int) := by
          rw [Int.natCast_ediv]
          have h5 : (M : Int) / (D : Int) ≤ (M : Int) := Int.ediv_le_self _ hM0
          have h6 : 0 ≤ (M : Int) / (D : Int) := Int.ediv_nonneg hM0 (by omega)
          exact IntWalk.wrap64_in ((M : Int) / (D : Int)) (by omega)
        have e2 : (M : Int) % (D : Int) = ((M % D : Nat) : Int) := (Int.natCast_emod _ _).symm
        rw [e1, e2]
        have hRD : M % D < D := Nat.mod_lt _ (by omega)
        have hWM : M / D ≤ M := Nat.div_le_self _ _
        have HMD := Lib.hid (Nat.div_add_mod M D)
        generalize M / D = W at *
        generalize M % D = R at *
        clear e1 e2
        obtain ⟨wq, rfl⟩ : ∃ x, x = wr := ⟨_, rfl⟩
        go_loopw [11, 12, 13] (fun v11 v12 v13 ws => ∃ (j : Nat) (T : ByteArray), v13 = .int .i64 (j : Nat) ∧ j ≤ i ∧ v11 = .int .i64 ((R / 10 ^ j : Nat) : Int) ∧ v12 = .string T ∧ DecInv wq ws R j T) (fun _ _ v13 _ => i - (intOf v13).toNat)
        case atStart => exact ⟨0, ⟨#[]⟩, rfl, Nat.zero_le _, by simp, rfl, rfl, Below.refl _ _⟩
        case round =>
          obtain ⟨j, T, rfl, hj, rfl, rfl, hT, hbw⟩ := hrel
          have HT := Lib.hid hT
          have HBW := Lib.hid hbw
          have hTs : T.size = j := by rw [Lib.size_eq, hT, digs_length]
          have hsuc : R / 10 ^ (j + 1) = R / 10 ^ j / 10 := by rw [Nat.pow_succ, Nat.div_div_eq_div_mul]
          have HDG : Hid (digs R (j + 1) = UInt8.ofNat (48 + R / 10 ^ j % 10) :: digs R j) := rfl
          have hX : R / 10 ^ j ≤ R := Nat.div_le_self _ _
          generalize R / 10 ^ j = X at *
          clear hT hbw
          by_cases hlt : j < i
          · have hik : (j : Int) < (i : Int) := by omega
            obtain ⟨r, hr, hr9, hrN⟩ : ∃ r : Nat, (X : Int) % 10 = (r : Int) ∧ r ≤ 9 ∧ X % 10 = r := ⟨X % 10, by omega, by omega, rfl⟩
            obtain ⟨Y, hY, hYN⟩ : ∃ Y : Nat, (X : Int) / 10 = (Y : Int) ∧ X / 10 = Y := ⟨X / 10, by omega, rfl⟩
            rw [hrN] at HDG
            rw [hYN] at hsuc
            have hY2 : Y ≤ 2147483648 := by omega
            have hX0 : (0 : Int) ≤ (X : Int) := by omega
            have hconv := conv_one r
            have hcat := fun wq => run_string_add (P := Tryz.prog) wq (oneB r) T (by show 1 ≤ _; omega) (by omega)
            have hw3 : IntKind.i64.wrap (48 + (r : Int)) = 48 + (r : Int) := IntWalk.i64_in _ (by omega)
            have hw4 : IntKind.u8.wrap (48 + (r : Int)) = 48 + (r : Int) := by unfold IntKind.wrap; simp [IntKind.bits]; omega
            have hw5 : IntKind.i64.wrap ((Y : Int)) = (Y : Int) := IntWalk.i64_in _ (by omega)
            clear hrN hYN hX
            have HINV : Hid (DecInv wq (wr.alloc (.cells #[.int .u8 (48 + (r : Int))] 5)) R (j + 1) (oneB r ++ T)) := ⟨by
              rw [ByteArray.toList_data_append, HT.out, HDG.out]; rfl, halloc HBW.out⟩
            go_wp2
            go_roundw
            case rel => exact ⟨j + 1, _, by go_num, by omega, by rw [hsuc], rfl, HINV.out⟩
            case measure => simp [intOf]; omega
          · obtain rfl : j = i := by omega
            have HB2 := Lib.hid (below_trans HB1.out HBW.out)
            have HTL := Lib.hid HT.out
            clear HB1 HBW hsuc HDG HT
            obtain ⟨w2, rfl⟩ : ∃ x, x = wr := ⟨_, rfl⟩
            have HB_2 := HB2
            clear HB2
            have hs_2 : w.heap.size ≤ w2.heap.size := HB_2.out.size
            obtain ⟨Q, hQ⟩ : ∃ Q, Rat.divInt N (D : Int) = Q := ⟨_, rfl⟩
            obtain ⟨QH, hQH⟩ : ∃ QH, Rat.divInt (W : Int) 1 = QH := ⟨_, rfl⟩
            obtain ⟨S, hS⟩ : ∃ S, decS W = S := ⟨_, rfl⟩
            have hx2 : textQ QH = S := by rw [← hQH, ← hS]; exact text_whole W
            have hx3 := decS_small (N := W) (by omega)
            obtain ⟨hx4, hx5⟩ := decS_read (N := W) (q := 10) (by omega) (by omega)
            rw [hS] at hx3 hx4 hx5
            rw [bt_lv] at hx5
            have HBQ : Hid (BQ 1 Q) := hQ ▸ divInt_bq (k := 1) (l := 1) (m := 1) (by omega) (by omega) (by omega) (by omega) (by omega)
            have HBH : Hid (BQ 1 QH) := hQH ▸ divInt_bq (k := 1) (l := 1) (m := 1) (by omega) (by omega) (by omega) (by omega) (by omega)
            have HPN := Lib.hid (fun w => parse_num (b := true) (N := N) hx4 hx3 hx5 HTL.out hp1 hp9 HD.out hRD (by rw [HMD.out]; simp only [sg]; have := HM.out; simp; omega) hQ w)
            have HPA : Hid (∀ w, Calls Tryz.prog 39 #[.string ((⟨#[45]⟩ : ByteArray) ++ S ++ ⟨#[46]⟩ ++ T)] w (fun e w' => RatOfPost w w' e Q true)) := fun w => (HPN.out w).1
            have HPB : Hid (∀ w, Calls Tryz.prog 39 #[.string ((⟨#[45]⟩ : ByteArray) ++ S ++ ⟨#[46]⟩ ++ T ++ ⟨#[48, 48]⟩)] w (fun e w' => RatOfPost w w' e Q true)) := fun w => (HPN.out w).2
            have z0 : (⟨#[45]⟩ : ByteArray).size ≤ 1 := by decide
            have z1 : ((⟨#[45]⟩ : ByteArray) ++ S).size ≤ 11 := by rw [ByteArray.size_append]; omega
            have z2 : ((⟨#[45]⟩ : ByteArray) ++ S ++ ⟨#[46]⟩).size ≤ 12 := by rw [ByteArray.size_append]; show _ + 1 ≤ _; omega
            have z3 : ((⟨#[45]⟩ : ByteArray) ++ S ++ ⟨#[46]⟩ ++ T).size ≤ 30 := by rw [ByteArray.size_append]; omega
            have hc1 := fun wq => run_string_add (P := Tryz.prog) wq (⟨#[45]⟩ : ByteArray) S (by show _ ≤ _; decide) (by omega)
            have hc2 := fun wq => run_string_add (P := Tryz.prog) wq ((⟨#[45]⟩ : ByteArray) ++ S) ⟨#[46]⟩ (by omega) (by show 1 ≤ _; omega)
            have hc3 := fun wq => run_string_add (P := Tryz.prog) wq ((⟨#[45]⟩ : ByteArray) ++ S ++ ⟨#[46]⟩) T (by omega) (by omega)
            have hc4 := fun wq => run_string_add (P := Tryz.prog) wq ((⟨#[45]⟩ : ByteArray) ++ S ++ ⟨#[46]⟩ ++ T) ⟨#[48, 48]⟩ (by omega) (by show 2 ≤ _; omega)
            have HQ := Lib.hid hQ
            have HQH := Lib.hid hQH
            have HX2 := Lib.hid hx2
            clear hQ hQH hS hx2 hx3 hx4 hx5 z0 z1 z2 z3 HPN
            go_wp2_with fail
            refine Calls.mono (rof_is HQH.out (by omega) (by omega) (by omega) (by omega) (by omega)) ?_
            rintro e w3 ⟨v, rfl, h, hb⟩
            have hk := h
            obtain ⟨b3, A3, n3, c3, d3, B3, m3, k3, rfl, -, -, -, -, -⟩ := h.form
            clear h
            have hB := hb
            have h_3 := Lib.hid (hk)
            have HB_3 := Lib.hid (below_trans HB_2.out hB)
            have hs_3 : w.heap.size ≤ w3.heap.size := HB_3.out.size
            have hz_3 : w2.heap.size + 0 ≤ w3.heap.size := (by have h := hb.size; (try simp at h); omega)
            clear hB hb HB_2
            go_wp2_with fail
            refine Calls.mono (rof_is HQ.out (by omega) (by omega) (by omega) (by omega) (by omega)) ?_
            rintro e w4 ⟨v, rfl, h, hb⟩
            have hk := h
            obtain ⟨b4, A4, n4, c4, d4, B4, m4, k4, rfl, -, -, -, -, -⟩ := h.form
            clear h
            have hB := bun (hb)
            have h_4 := Lib.hid (h_3.out.below hB)
            have Kh_4 := Lib.hid (show Blk w4 (w3.heap.size) 26 #[.bool b3, .slice A3 n3 c3, .bool d3, .slice B3 m3 k3] from (Blk.new _ _ (by simp) _ _).below hb)
            have n_4 := Lib.hid (hk)
            have HB_4 := Lib.hid (below_trans HB_3.out hB)
            have hs_4 : w.heap.size ≤ w4.heap.size := HB_4.out.size
            have hz_4 : w3.heap.size + 1 ≤ w4.heap.size := (by have h := hb.size; (try simp at h); omega)
            clear hB hb h_3 HB_3
            obtain ⟨p10, p11, p12, p13, l1⟩ := Kh_4.out.use4
            go_wp2_with fail
            refine Calls.mono (r_text (irqD HBH.out (h_4.out.alloc_ _)) (by omega) (by omega)) ?_
            rintro e w5 ⟨rfl, hb⟩
            rw [HX2.out]
            have hB := bun (hb)
            have h_5 := Lib.hid (h_4.out.below hB)
            have n_5 := Lib.hid (n_4.out.below hB)
            have Kh_5 := Lib.hid (Kh_4.out.below hB)
            have Kn_5 := Lib.hid (show Blk w5 (w4.heap.size) 26 #[.bool b4, .slice A4 n4 c4, .bool d4, .slice B4 m4 k4] from (Blk.new _ _ (by simp) _ _).below hb)
            have HB_5 := Lib.hid (below_trans HB_4.out hB)
            have hs_5 : w.heap.size ≤ w5.heap.size := HB_5.out.size
            have hz_5 : w4.heap.size + 1 ≤ w5.heap.size := (by have h := hb.size; (try simp at h); omega)
            clear hB hb h_4 n_4 Kh_4 HB_4 p10 p11 p12 p13 l1
            go_wp2_with fail
            refine Calls.mono (HPA.out _) ?_
            rintro e w6 ⟨v, rfl, h, hb⟩
            have hk := h
            obtain ⟨b6, A6, n6, c6, d6, B6, m6, k6, rfl, -, -, -, -, -⟩ := h.form
            clear h
            have hB := hb
            have h_6 := Lib.hid (h_5.out.below hB)
            have n_6 := Lib.hid (n_5.out.below hB)
            have Kh_6 := Lib.hid (Kh_5.out.below hB)
            have Kn_6 := Lib.hid (Kn_5.out.below hB)
            have a_6 := Lib.hid (hk)
            have HB_6 := Lib.hid (below_trans HB_5.out hB)
            have hs_6 : w.heap.size ≤ w6.heap.size := HB_6.out.size
            have hz_6 : w5.heap.size + 0 ≤ w6.heap.size := (by have h := hb.size; (try simp at h); omega)
            clear hB hb h_5 n_5 Kh_5 Kn_5 HB_5
            obtain ⟨p20, p21, p22, p23, l2⟩ := Kh_6.out.use4
            go_wp2_with fail
            refine Calls.mono (r_text (irqD HBH.out (h_6.out.alloc_ _)) (by omega) (by omega)) ?_
            rintro e w7 ⟨rfl, hb⟩
            rw [HX2.out]
            have hB := bun (hb)
            have h_7 := Lib.hid (h_6.out.below hB)
            have n_7 := Lib.hid (n_6.out.below hB)
            have a_7 := Lib.hid (a_6.out.below hB)
            have Kh_7 := Lib.hid (Kh_6.out.below hB)
            have Kn_7 := Lib.hid (Kn_6.out.below hB)
            have Ka_7 := Lib.hid (show Blk w7 (w6.heap.size) 26 #[.bool b6, .slice A6 n6 c6, .bool d6, .slice B6 m6 k6] from (Blk.new _ _ (by simp) _ _).below hb)
            have HB_7 := Lib.hid (below_trans HB_6.out hB)
            have hs_7 : w.heap.size ≤ w7.heap.size := HB_7.out.size
            have hz_7 : w6.heap.size + 1 ≤ w7.heap.size := (by have h := hb.size; (try simp at h); omega)
            clear hB hb h_6 n_6 a_6 Kh_6 Kn_6 HB_6 p20 p21 p22 p23 l2
            go_wp2_with fail
            refine Calls.mono (HPB.out _) ?_
            rintro e w8 ⟨v, rfl, h, hb⟩
            have hk := h
            obtain ⟨b8, A8, n8, c8, d8, B8, m8, k8, rfl, -, -, -, -, -⟩ := h.form
            clear h
            have hB := hb
            have h_8 := Lib.hid (h_7.out.below hB)
            have n_8 := Lib.hid (n_7.out.below hB)
            have a_8 := Lib.hid (a_7.out.below hB)
            have Kh_8 := Lib.hid (Kh_7.out.below hB)
            have Kn_8 := Lib.hid (Kn_7.out.below hB)
            have Ka_8 := Lib.hid (Ka_7.out.below hB)
            have b_8 := Lib.hid (hk)
            have HB_8 := Lib.hid (below_trans HB_7.out hB)
            have hs_8 : w.heap.size ≤ w8.heap.size := HB_8.out.size
            have hz_8 : w7.heap.size + 0 ≤ w8.heap.size := (by have h := hb.size; (try simp at h); omega)
            clear hB hb h_7 n_7 a_7 Kh_7 Kn_7 Ka_7 HB_7
            obtain ⟨p30, p31, p32, p33, l3⟩ := Ka_8.out.use4
            obtain ⟨p40, p41, p42, p43, l4⟩ := Kn_8.out.use4
            go_wp2_with fail
            refine Calls.mono (rat_same (a_8.out.alloc_ _) (n_8.out.alloc_ _) HBQ.out (by omega)) ?_
            rintro e w9 ⟨rfl, hb⟩
            have hB := bun (hb)
            have h_9 := Lib.hid (h_8.out.below hB)
            have n_9 := Lib.hid (n_8.out.below hB)
            have a_9 := Lib.hid (a_8.out.below hB)
            have b_9 := Lib.hid (b_8.out.below hB)
            have Kh_9 := Lib.hid (Kh_8.out.below hB)
            have Kn_9 := Lib.hid (Kn_8.out.below hB)
            have Ka_9 := Lib.hid (Ka_8.out.below hB)
            have Kb_9 := Lib.hid (show Blk w9 (w8.heap.size) 26 #[.bool b8, .slice A8 n8 c8, .bool d8, .slice B8 m8 k8] from (Blk.new _ _ (by simp) _ _).below hb)
            have HB_9 := Lib.hid (below_trans HB_8.out hB)
            have hs_9 : w.heap.size ≤ w9.heap.size := HB_9.out.size
            have hz_9 : w8.heap.size + 1 ≤ w9.heap.size := (by have h := hb.size; (try simp at h); omega)
            clear hB hb h_8 n_8 a_8 b_8 Kh_8 Kn_8 Ka_8 HB_8 p30 p31 p32 p33 l3 p40 p41 p42 p43 l4
            obtain ⟨p50, p51, p52, p53, l5⟩ := Kb_9.out.use4
            obtain ⟨p60, p61, p62, p63, l6⟩ := Kn_9.out.use4
            go_wp2_with fail
            refine Calls.mono (rat_same b_9.out n_9.out HBQ.out (by omega)) ?_
            rintro e w10 ⟨rfl, hb⟩
            have hB := hb
            have h_10 := Lib.hid (h_9.out.below hB)
            have n_10 := Lib.hid (n_9.out.below hB)
            have a_10 := Lib.hid (a_9.out.below hB)
            have b_10 := Lib.hid (b_9.out.below hB)
            have Kh_10 := Lib.hid (Kh_9.out.below hB)
            have Kn_10 := Lib.hid (Kn_9.out.below hB)
            have Ka_10 := Lib.hid (Ka_9.out.below hB)
            have Kb_10 := Lib.hid (Kb_9.out.below hB)
            have HB_10 := Lib.hid (below_trans HB_9.out hB)
            have hs_10 : w.heap.size ≤ w10.heap.size := HB_10.out.size
            have hz_10 : w9.heap.size + 0 ≤ w10.heap.size := (by have h := hb.size; (try simp at h); omega)
            clear hB hb h_9 n_9 a_9 b_9 Kh_9 Kn_9 Ka_9 Kb_9 HB_9 p50 p51 p52 p53 l5 p60 p61 p62 p63 l6
            go_wp2
            go_ret
            exact ⟨by simp, HB_10.out⟩
      ·
        have hN : ¬ N < 0 := hneg
        obtain ⟨M, hM⟩ : ∃ M : Nat, (M : Int) = N := ⟨N.toNat, by omega⟩
        rw [← hM] at hN ⊢
        have hM31 : M ≤ 2147483648 := by omega
        have HM := Lib.hid hM
        have hM0 : (0 : Int) ≤ (M : Int) := by omega
        have hD0 : (0 : Int) < (D : Int) := by omega
        have hDz : ((D : Int) == 0) = false := by rw [beq_eq_false_iff_ne]; omega
        have hDz2 : ¬ (D : Int) = 0 := by omega
        clear hM
        go_wp2
        have e1 : wrap64 ((M : Int) / (D : Int)) = ((M / D : Nat) : Int) := by
          rw [Int.natCast_ediv]
          have h5 : (M : Int) / (D : Int) ≤ (M : Int) := Int.ediv_le_self _ hM0
          have h6 : 0 ≤ (M : Int) / (D : Int) := Int.ediv_nonneg hM0 (by omega)
          exact IntWalk.wrap64_in ((M : Int) / (D : Int)) (by omega)
        have e2 : (M : Int) % (D : Int) = ((M % D : Nat) : Int) := (Int.natCast_emod _ _).symm
        rw [e1, e2]
        have hRD : M % D < D := Nat.mod_lt _ (by omega)
        have hWM : M / D ≤ M := Nat.div_le_self _ _
        have HMD := Lib.hid (Nat.div_add_mod M D)
        generalize M / D = W at *
        generalize M % D = R at *
        clear e1 e2
        obtain ⟨wq, rfl⟩ : ∃ x, x = wr := ⟨_, rfl⟩
        go_loopw [11, 12, 13] (fun v11 v12 v13 ws => ∃ (j : Nat) (T : ByteArray), v13 = .int .i64 (j : Nat) ∧ j ≤ i ∧ v11 = .int .i64 ((R / 10 ^ j : Nat) : Int) ∧ v12 = .string T ∧ DecInv wq ws R j T) (fun _ _ v13 _ => i - (intOf v13).toNat)
        case atStart => exact ⟨0, ⟨#[]⟩, rfl, Nat.zero_le _, by simp, rfl, rfl, Below.refl _ _⟩
        case round =>
          obtain ⟨j, T, rfl, hj, rfl, rfl, hT, hbw⟩ := hrel
          have HT := Lib.hid hT
          have HBW := Lib.hid hbw
          have hTs : T.size = j := by rw [Lib.size_eq, hT, digs_length]
          have hsuc : R / 10 ^ (j + 1) = R / 10 ^ j / 10 := by rw [Nat.pow_succ, Nat.div_div_eq_div_mul]
          have HDG : Hid (digs R (j + 1) = UInt8.ofNat (48 + R / 10 ^ j % 10) :: digs R j) := rfl
          have hX : R / 10 ^ j ≤ R := Nat.div_le_self _ _
          generalize R / 10 ^ j = X at *
          clear hT hbw
          by_cases hlt : j < i
          · have hik : (j : Int) < (i : Int) := by omega
            obtain ⟨r, hr, hr9, hrN⟩ : ∃ r : Nat, (X : Int) % 10 = (r : Int) ∧ r ≤ 9 ∧ X % 10 = r := ⟨X % 10, by omega, by omega, rfl⟩
            obtain ⟨Y, hY, hYN⟩ : ∃ Y : Nat, (X : Int) / 10 = (Y : Int) ∧ X / 10 = Y := ⟨X / 10, by omega, rfl⟩
            rw [hrN] at HDG
            rw [hYN] at hsuc
            have hY2 : Y ≤ 2147483648 := by omega
            have hX0 : (0 : Int) ≤ (X : Int) := by omega
            have hconv := conv_one r
            have hcat := fun wq => run_string_add (P := Tryz.prog) wq (oneB r) T (by show 1 ≤ _; omega) (by omega)
            have hw3 : IntKind.i64.wrap (48 + (r : Int)) = 48 + (r : Int) := IntWalk.i64_in _ (by omega)
            have hw4 : IntKind.u8.wrap (48 + (r : Int)) = 48 + (r : Int) := by unfold IntKind.wrap; simp [IntKind.bits]; omega
            have hw5 : IntKind.i64.wrap ((Y : Int)) = (Y : Int) := IntWalk.i64_in _ (by omega)
            clear hrN hYN hX
            have HINV : Hid (DecInv wq (wr.alloc (.cells #[.int .u8 (48 + (r : Int))] 5)) R (j + 1) (oneB r ++ T)) := ⟨by
              rw [ByteArray.toList_data_append, HT.out, HDG.out]; rfl, halloc HBW.out⟩
            go_wp2
            go_roundw
            case rel => exact ⟨j + 1, _, by go_num, by omega, by rw [hsuc], rfl, HINV.out⟩
            case measure => simp [intOf]; omega
          · obtain rfl : j = i := by omega
            have HB2 := Lib.hid (below_trans HB1.out HBW.out)
            have HTL := Lib.hid HT.out
            clear HB1 HBW hsuc HDG HT
            obtain ⟨w2, rfl⟩ : ∃ x, x = wr := ⟨_, rfl⟩
            have HB_2 := HB2
            clear HB2
            have hs_2 : w.heap.size ≤ w2.heap.size := HB_2.out.size
            obtain ⟨Q, hQ⟩ : ∃ Q, Rat.divInt (M : Int) (D : Int) = Q := ⟨_, rfl⟩
            obtain ⟨QH, hQH⟩ : ∃ QH, Rat.divInt (W : Int) 1 = QH := ⟨_, rfl⟩
            obtain ⟨S, hS⟩ : ∃ S, decS W = S := ⟨_, rfl⟩
            have hx2 : textQ QH = S := by rw [← hQH, ← hS]; exact text_whole W
            have hx3 := decS_small (N := W) (by omega)
            obtain ⟨hx4, hx5⟩ := decS_read (N := W) (q := 10) (by omega) (by omega)
            rw [hS] at hx3 hx4 hx5
            rw [bt_lv] at hx5
            have HBQ : Hid (BQ 1 Q) := hQ ▸ divInt_bq (k := 1) (l := 1) (m := 1) (by omega) (by omega) (by omega) (by omega) (by omega)
            have HBH : Hid (BQ 1 QH) := hQH ▸ divInt_bq (k := 1) (l := 1) (m := 1) (by omega) (by omega) (by omega) (by omega) (by omega)
            have HPN := Lib.hid (fun w => parse_num (b := false) (N := (M : Int)) hx4 hx3 hx5 HTL.out hp1 hp9 HD.out hRD (by rw [HMD.out]; simp only [sg]; simp) hQ w)
            have HPA : Hid (∀ w, Calls Tryz.prog 39 #[.string ((⟨#[]⟩ : ByteArray) ++ S ++ ⟨#[46]⟩ ++ T)] w (fun e w' => RatOfPost w w' e Q true)) := fun w => (HPN.out w).1
            have HPB : Hid (∀ w, Calls Tryz.prog 39 #[.string ((⟨#[]⟩ : ByteArray) ++ S ++ ⟨#[46]⟩ ++ T ++ ⟨#[48, 48]⟩)] w (fun e w' => RatOfPost w w' e Q true)) := fun w => (HPN.out w).2
            have z0 : (⟨#[]⟩ : ByteArray).size ≤ 1 := by decide
            have z1 : ((⟨#[]⟩ : ByteArray) ++ S).size ≤ 11 := by rw [ByteArray.size_append]; omega
            have z2 : ((⟨#[]⟩ : ByteArray) ++ S ++ ⟨#[46]⟩).size ≤ 12 := by rw [ByteArray.size_append]; show _ + 1 ≤ _; omega
            have z3 : ((⟨#[]⟩ : ByteArray) ++ S ++ ⟨#[46]⟩ ++ T).size ≤ 30 := by rw [ByteArray.size_append]; omega
            have hc1 := fun wq => run_string_add (P := Tryz.prog) wq (⟨#[]⟩ : ByteArray) S (by show _ ≤ _; decide) (by omega)
            have hc2 := fun wq => run_string_add (P := Tryz.prog) wq ((⟨#[]⟩ : ByteArray) ++ S) ⟨#[46]⟩ (by omega) (by show 1 ≤ _; omega)
            have hc3 := fun wq => run_string_add (P := Tryz.prog) wq ((⟨#[]⟩ : ByteArray) ++ S ++ ⟨#[46]⟩) T (by omega) (by omega)
            have hc4 := fun wq => run_string_add (P := Tryz.prog) wq ((⟨#[]⟩ : ByteArray) ++ S ++ ⟨#[46]⟩ ++ T) ⟨#[48, 48]⟩ (by omega) (by show 2 ≤ _; omega)
            have HQ := Lib.hid hQ
            have HQH := Lib.hid hQH
            have HX2 := Lib.hid hx2
            clear hQ hQH hS hx2 hx3 hx4 hx5 z0 z1 z2 z3 HPN
            go_wp2_with fail
            refine Calls.mono (rof_is HQH.out (by omega) (by omega) (by omega) (by omega) (by omega)) ?_
            rintro e w3 ⟨v, rfl, h, hb⟩
            have hk := h
            obtain ⟨b3, A3, n3, c3, d3, B3, m3, k3, rfl, -, -, -, -, -⟩ := h.form
            clear h
            have hB := hb
            have h_3 := Lib.hid (hk)
            have HB_3 := Lib.hid (below_trans HB_2.out hB)
            have hs_3 : w.heap.size ≤ w3.heap.size := HB_3.out.size
            have hz_3 : w2.heap.size + 0 ≤ w3.heap.size := (by have h := hb.size; (try simp at h); omega)
            clear hB hb HB_2
            go_wp2_with fail
            refine Calls.mono (rof_is HQ.out (by omega) (by omega) (by omega) (by omega) (by omega)) ?_
            rintro e w4 ⟨v, rfl, h, hb⟩
            have hk := h
            obtain ⟨b4, A4, n4, c4, d4, B4, m4, k4, rfl, -, -, -, -, -⟩ := h.form
            clear h
            have hB := bun (hb)
            have h_4 := Lib.hid (h_3.out.below hB)
            have Kh_4 := Lib.hid (show Blk w4 (w3.heap.size) 26 #[.bool b3, .slice A3 n3 c3, .bool d3, .slice B3 m3 k3] from (Blk.new _ _ (by simp) _ _).below hb)
            have n_4 := Lib.hid (hk)
            have HB_4 := Lib.hid (below_trans HB_3.out hB)
            have hs_4 : w.heap.size ≤ w4.heap.size := HB_4.out.size
            have hz_4 : w3.heap.size + 1 ≤ w4.heap.size := (by have h := hb.size; (try simp at h); omega)
            clear hB hb h_3 HB_3
            obtain ⟨p10, p11, p12, p13, l1⟩ := Kh_4.out.use4
            go_wp2_with fail
            refine Calls.mono (r_text (irqD HBH.out (h_4.out.alloc_ _)) (by omega) (by omega)) ?_
            rintro e w5 ⟨rfl, hb⟩
            rw [HX2.out]
            have hB := bun (hb)
            have h_5 := Lib.hid (h_4.out.below hB)
            have n_5 := Lib.hid (n_4.out.below hB)
            have Kh_5 := Lib.hid (Kh_4.out.below hB)
            have Kn_5 := Lib.hid (show Blk w5 (w4.heap.size) 26 #[.bool b4, .slice A4 n4 c4, .bool d4, .slice B4 m4 k4] from (Blk.new _ _ (by simp) _ _).below hb)
            have HB_5 := Lib.hid (below_trans HB_4.out hB)
            have hs_5 : w.heap.size ≤ w5.heap.size := HB_5.out.size
            have hz_5 : w4.heap.size + 1 ≤ w5.heap.size := (by have h := hb.size; (try simp at h); omega)
            clear hB hb h_4 n_4 Kh_4 HB_4 p10 p11 p12 p13 l1
            go_wp2_with fail
            refine Calls.mono (HPA.out _) ?_
            rintro e w6 ⟨v, rfl, h, hb⟩
            have hk := h
            obtain ⟨b6, A6, n6, c6, d6, B6, m6, k6, rfl, -, -, -, -, -⟩ := h.form
            clear h
            have hB := hb
            have h_6 := Lib.hid (h_5.out.below hB)
            have n_6 := Lib.hid (n_5.out.below hB)
            have Kh_6 := Lib.hid (Kh_5.out.below hB)
            have Kn_6 := Lib.hid (Kn_5.out.below hB)
            have a_6 := Lib.hid (hk)
            have HB_6 := Lib.hid (below_trans HB_5.out hB)
            have hs_6 : w.heap.size ≤ w6.heap.size := HB_6.out.size
            have hz_6 : w5.heap.size + 0 ≤ w6.heap.size := (by have h := hb.size; (try simp at h); omega)
            clear hB hb h_5 n_5 Kh_5 Kn_5 HB_5
            obtain ⟨p20, p21, p22, p23, l2⟩ := Kh_6.out.use4
            go_wp2_with fail
            refine Calls.mono (r_text (irqD HBH.out (h_6.out.alloc_ _)) (by omega) (by omega)) ?_
            rintro e w7 ⟨rfl, hb⟩
            rw [HX2.out]
            have hB := bun (hb)
            have h_7 := Lib.hid (h_6.out.below hB)
            have n_7 := Lib.hid (n_6.out.below hB)
            have a_7 := Lib.hid (a_6.out.below hB)
            have Kh_7 := Lib.hid (Kh_6.out.below hB)
            have Kn_7 := Lib.hid (Kn_6.out.below hB)
            have Ka_7 := Lib.hid (show Blk w7 (w6.heap.size) 26 #[.bool b6, .slice A6 n6 c6, .bool d6, .slice B6 m6 k6] from (Blk.new _ _ (by simp) _ _).below hb)
            have HB_7 := Lib.hid (below_trans HB_6.out hB)
            have hs_7 : w.heap.size ≤ w7.heap.size := HB_7.out.size
            have hz_7 : w6.heap.size + 1 ≤ w7.heap.size := (by have h := hb.size; (try simp at h); omega)
            clear hB hb h_6 n_6 a_6 Kh_6 Kn_6 HB_6 p20 p21 p22 p23 l2
            go_wp2_with fail
            refine Calls.mono (HPB.out _) ?_
            rintro e w8 ⟨v, rfl, h, hb⟩
            have hk := h
            obtain ⟨b8, A8, n8, c8, d8, B8, m8, k8, rfl, -, -, -, -, -⟩ := h.form
            clear h
            have hB := hb
            have h_8 := Lib.hid (h_7.out.below hB)
            have n_8 := Lib.hid (n_7.out.below hB)
            have a_8 := Lib.hid (a_7.out.below hB)
            have Kh_8 := Lib.hid (Kh_7.out.below hB)
            have Kn_8 := Lib.hid (Kn_7.out.below hB)
            have Ka_8 := Lib.hid (Ka_7.out.below hB)
            have b_8 := Lib.hid (hk)
            have HB_8 := Lib.hid (below_trans HB_7.out hB)
            have hs_8 : w.heap.size ≤ w8.heap.size := HB_8.out.size
            have hz_8 : w7.heap.size + 0 ≤ w8.heap.size := (by have h := hb.size; (try simp at h); omega)
            clear hB hb h_7 n_7 a_7 Kh_7 Kn_7 Ka_7 HB_7
            obtain ⟨p30, p31, p32, p33, l3⟩ := Ka_8.out.use4
            obtain ⟨p40, p41, p42, p43, l4⟩ := Kn_8.out.use4
            go_wp2_with fail
            refine Calls.mono (rat_same (a_8.out.alloc_ _) (n_8.out.alloc_ _) HBQ.out (by omega)) ?_
            rintro e w9 ⟨rfl, hb⟩
            have hB := bun (hb)
            have h_9 := Lib.hid (h_8.out.below hB)
            have n_9 := Lib.hid (n_8.out.below hB)
            have a_9 := Lib.hid (a_8.out.below hB)
            have b_9 := Lib.hid (b_8.out.below hB)
            have Kh_9 := Lib.hid (Kh_8.out.below hB)
            have Kn_9 := Lib.hid (Kn_8.out.below hB)
            have Ka_9 := Lib.hid (Ka_8.out.below hB)
            have Kb_9 := Lib.hid (show Blk w9 (w8.heap.size) 26 #[.bool b8, .slice A8 n8 c8, .bool d8, .slice B8 m8 k8] from (Blk.new _ _ (by simp) _ _).below hb)
            have HB_9 := Lib.hid (below_trans HB_8.out hB)
            have hs_9 : w.heap.size ≤ w9.heap.size := HB_9.out.size
            have hz_9 : w8.heap.size + 1 ≤ w9.heap.size := (by have h := hb.size; (try simp at h); omega)
            clear hB hb h_8 n_8 a_8 b_8 Kh_8 Kn_8 Ka_8 HB_8 p30 p31 p32 p33 l3 p40 p41 p42 p43 l4
            obtain ⟨p50, p51, p52, p53, l5⟩ := Kb_9.out.use4
            obtain ⟨p60, p61, p62, p63, l6⟩ := Kn_9.out.use4
            go_wp2_with fail
            refine Calls.mono (rat_same b_9.out n_9.out HBQ.out (by omega)) ?_
            rintro e w10 ⟨rfl, hb⟩
            have hB := hb
            have h_10 := Lib.hid (h_9.out.below hB)
            have n_10 := Lib.hid (n_9.out.below hB)
            have a_10 := Lib.hid (a_9.out.below hB)
            have b_10 := Lib.hid (b_9.out.below hB)
            have Kh_10 := Lib.hid (Kh_9.out.below hB)
            have Kn_10 := Lib.hid (Kn_9.out.below hB)
            have Ka_10 := Lib.hid (Ka_9.out.below hB)
            have Kb_10 := Lib.hid (Kb_9.out.below hB)
            have HB_10 := Lib.hid (below_trans HB_9.out hB)
            have hs_10 : w.heap.size ≤ w10.heap.size := HB_10.out.size
            have hz_10 : w9.heap.size + 0 ≤ w10.heap.size := (by have h := hb.size; (try simp at h); omega)
            clear hB hb h_9 n_9 a_9 b_9 Kh_9 Kn_9 Ka_9 Kb_9 HB_9 p50 p51 p52 p53 l5 p60 p61 p62 p63 l6
            go_wp2
            go_ret
            exact ⟨by simp, HB_10.out⟩
end Go.Proofs.YtglcififcldchaaGreatDoor
