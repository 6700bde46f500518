/- The walk of CellNeeds. -/
import Derived.Test.YtahcgihdgpdiiaaKq
namespace Go.Proofs.Ytahcgihdgpdiiaa
open Go.RowKit
set_option linter.unusedSimpArgs false
set_option linter.unusedVariables false

def NeedsPost (w w' : World) (e : Ending) : Prop := e = .returned (.bool true) ∧ Below w.heap.size w w'
theorem u32_7 : u32I 7 := by unfold u32I; omega
theorem u32_8 : u32I 8 := by unfold u32I; omega
theorem need_mono (k : Nat) (h : needF k ≠ 0) : needF (k - 1) ≤ needF k := by
  unfold needF at *
  split at h
  · omega
  · rename_i h1
    rw [if_neg h1]
    split <;> omega
theorem need_zero {k : Nat} : needF k = 0 ↔ k = 0 ∨ 392 < k := by
  unfold needF
  split <;> omega

set_option maxRecDepth 20000 in
set_option maxHeartbeats 2000000 in
theorem needs_any (n c : Nat) (w : World) (hn : n < 65536) (hc : c < 256) :
    Calls Try.prog 7 #[.int .u16 (n : Nat), .int .u8 (c : Nat)] w fun e w' => NeedsPost w w' e := by
  have hk : n % 500 < 500 := Nat.mod_lt _ (by decide)
  have hkI : (n : Int) % 500 = ((n % 500 : Nat) : Int) := by omega
  generalize n % 500 = k at *
  go_enter Try.func7, Try.ntmps7
  go_wp2_with (go_at_call 10; refine (awake_any _).mono ?_; rintro e w1 ⟨rfl, hb1⟩)
  have HB1 := Lib.hid hb1
  rw [hkI]
  clear hb1 hkI
  go_loopw [6, 7] (fun v6 v7 wr => ∃ i : Nat, i ≤ k ∧ v7 = .int .i64 (i : Nat) ∧ Own .u8 5 wr w.heap.size v6 i (fun _ => c) ∧ Below w.heap.size w wr) (fun _ v7 _ => k - (intOf v7).toNat)
  case atStart => exact ⟨0, by omega, rfl, Own.nil, HB1.out⟩
  case round =>
    obtain ⟨i, hik, rfl, hown, hbl⟩ := hrel
    have HO := Lib.hid hown
    have HB := Lib.hid hbl
    clear hown hbl HB1
    by_cases hlt : i < k
    · have hown1 := HO.out.alloc (.cells #[.int .u8 (c : Nat)] 5)
      have hrd1 : Rd .u8 (wr.alloc (.cells #[.int .u8 (c : Nat)] 5)) (some ⟨wr.heap.size, 0, none⟩) 1 (fun _ => c) := (row_one wr c).rd0 (Nat.le_refl _)
      have hws := HB.out.size
      go_wp2_with (at_builtin; refine wpList_app rfl _ _ 23 rfl .u8 5 Try.underlying23 1 u8_info (by omega) w.heap.size _ i (fun _ => c) rfl hown1 (some ⟨wr.heap.size, 0, none⟩) 1 1 (fun _ => c) rfl hrd1 (fun h => by cases h) (by omega) (by simp; omega) ?_; intro v2 w5 hown2 hb2 hsz2)
      have hown3 : Own .u8 5 w5 w.heap.size v2 (i + 1) (fun _ => c) := hown2.congr fun j _ => by unfold appF; split <;> rfl
      have HB5 := Lib.hid ((HB.out.trans ((below_new wr (.cells #[.int .u8 (c : Nat)] 5)).mono hws)).trans hb2)
      clear hown1 hrd1 hown2 hb2 hsz2
      go_wp2
      go_roundw
      case rel => exact ⟨i + 1, by omega, by go_num, hown3, HB5.out⟩
      case measure => simp [intOf]; omega
    · obtain rfl : i = k := by omega
      have hv := own_byt HO.out fun _ _ => hc
      have HV := Lib.hid hv
      obtain ⟨A6, c6, rfl, _⟩ := hv
      have tok1 : True := trivial
      by_cases hz : needF i = 0
      · have HZ := Lib.hid hz
        have hz2 := need_zero.1 hz
        clear hz
        rcases hz2 with h0 | h0
        · subst h0
          go_wp2_with (first
            | (go_at_call 20; refine Calls.mono (split_ino u32_7 u32_8 HV.out (by omega) HZ.out) ?_; rintro e w6 ⟨rfl, hb6⟩)
            | (go_at_call 24; refine Calls.mono (need_i (by omega) (by omega)) ?_; rintro e w7 ⟨rfl, rfl⟩; rw [show needF (0 : Int).toNat = 0 from HZ.out]))
          go_ret
          exact ⟨rfl, HB.out.trans (hb6.mono HB.out.size)⟩
        · go_wp2_with (first
            | (go_at_call 20; refine Calls.mono (split_ino u32_7 u32_8 HV.out (by omega) HZ.out) ?_; rintro e w6 ⟨rfl, hb6⟩)
            | (go_at_call 24; refine Calls.mono (need_any i _ (by omega)) ?_; rintro e w7 ⟨rfl, rfl⟩; rw [HZ.out]))
          go_ret
          exact ⟨rfl, HB.out.trans (hb6.mono HB.out.size)⟩
      · have hi1 : 0 < i ∧ i ≤ 392 := by
          have h1 := mt need_zero.2 hz
          omega
        obtain ⟨hia, hib⟩ := hi1
        have hic : ((i : Int) == 0) = false := by rw [beq_eq_false_iff_ne]; omega
        have HNM := Lib.hid (need_mono i hz)
        have HZ := Lib.hid hz
        have hN8 := need_few i
        clear hz
        generalize hN : needF i = N at *
        have HN := Lib.hid hN
        clear hN
        go_wp2_with (first
          | (go_at_call 20; refine Calls.mono (split_i u32_7 u32_8 HV.out (by omega) (by rw [HN.out]; exact HZ.out)) ?_; rintro e w6 ⟨⟨v6, rfl, hv6⟩, hb6⟩; obtain ⟨ad, c7, rfl, hc6⟩ := hv6.form; have HP6 := Lib.hid hv6; rw [HN.out] at hc6 ⊢; clear hv6)
          | (go_at_call 24; refine Calls.mono (need_any i _ (by omega)) ?_; rintro e w7 ⟨rfl, rfl⟩; rw [HN.out]))
        have HB6 := Lib.hid (HB.out.trans (hb6.mono HB.out.size))
        clear hb6
        go_loopw [11] (fun v wr2 => ∃ m : Nat, m ≤ N ∧ v = .int .i64 (m : Nat) ∧ Below w7.heap.size w7 wr2) (fun v _ => N - (intOf v).toNat)
        case atStart => exact ⟨0, by omega, rfl, Below.refl _ _⟩
        case round =>
          obtain ⟨m, hmN, rfl, hbr⟩ := hrel
          have HBR := Lib.hid hbr
          clear hbr
          by_cases hlt2 : m < N
          · have hP9 := HP6.out.below HBR.out
            have hP10 : Parts wr 7 8 i (fun _ => c) (.slice (some ad) (needF i) c7) := hP9
            obtain ⟨A, l, c', ⟨e0, e1, e2, e3, e4, e5⟩, _, hl, hmy⟩ := hP10.at_ u32_7 u32_8 (i := m) (by rw [HN.out]; exact hlt2)
            rw [HN.out] at e4 hmy
            have HMY := Lib.hid hmy
            unfold mayP at hmy
            have hlN : l ≤ 49 ∧ (m + 1 < N → l = 49) := by omega
            clear hP9 hP10 hl hmy
            have hab : (ad.add (m * 5)).block < wr.heap.size := e0
            by_cases h49 : l = 49
            · have g1 : ((l : Int) != 49) = false := by rw [bne_eq_false_iff_eq]; omega
              have HL := Lib.hid h49
              clear h49 hlN
              go_wp2_with (go_at_call 17; refine Calls.mono (may_i u32_7 u32_8 (by have := HL.out; omega)) ?_; rintro e w9 ⟨rfl, hb9⟩; rw [decide_eq_true HMY.out])
              go_roundw
              case rel => exact ⟨m + 1, by omega, by go_num, bbt HBR.out hb9⟩
              case measure => simp [intOf]; omega
            · have g1 : ((l : Int) != 49) = true := by rw [bne_iff_ne]; omega
              have g2 : ¬ ((m : Int) < (N : Int) - 1) := by omega
              have HL := Lib.hid hlN
              clear h49 hlN
              go_wp2_with (go_at_call 17; refine Calls.mono (may_i u32_7 u32_8 (by have := HL.out; omega)) ?_; rintro e w9 ⟨rfl, hb9⟩; rw [decide_eq_true HMY.out])
              go_roundw
              case rel => exact ⟨m + 1, by omega, by go_num, bbt HBR.out hb9⟩
              case measure => simp [intOf]; omega
          · obtain rfl : m = N := by omega
            have hNM := HNM.out
            generalize hM : needF (i - 1) = M at hNM
            have HM := Lib.hid hM
            clear hM HNM
            have hMI : (M : Int) ≤ (m : Int) := by omega
            have hm8 : (m : Int) ≤ 8 := by omega
            have HBF := Lib.hid (HB6.out.trans (HBR.out.mono HB6.out.size))
            go_wp2_with (go_at_call 24; refine Calls.mono (need_i (by omega) (by omega)) ?_; rintro e w9 ⟨rfl, rfl⟩; rw [show ((i : Int) - 1).toNat = i - 1 from by omega, HM.out])
            go_ret
            exact ⟨rfl, HBF.out⟩
end Go.Proofs.Ytahcgihdgpdiiaa
