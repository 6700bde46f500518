/- Contracts of the document's own numbers: cmp, add. -/
import Derived.Test.YtonjecddhbckgaaRb
import Derived.Test.YtonjecddhbckgaaCf
namespace Go.Proofs.Ytonjecddhbckgaa
open Go.RowKit

theorem rat_dg (A : Option Addr) (n c i : Nat) (f : Nat → Nat) (w : World) (hr : Rd .i64 w A n f) :
    Calls Try.prog 61 #[.slice A n c, .int .i64 (i : Nat)] w fun e w' => e = .returned (.int .i64 (dg f n i : Nat)) ∧ w' = w := rat_any A n c i f w hr

theorem num_dg_top_lt {f h : Nat → Nat} {n m q j : Nat} (hj : j < q) (hf : ∀ i, i < n → f i < 256) (ht : dg f n j < dg h m j) (he : ∀ i, j < i → i < q → dg f n i = dg h m i) (hn : n ≤ q) (hm : m ≤ q) : num 256 f n < num 256 h m := by
  rw [← num_dg (f := f) hn, ← num_dg (f := h) hm]
  exact num_top_lt (by omega) hj (fun i _ => dg_lt hf i) ht he

set_option maxHeartbeats 1000000 in
theorem rcmp_any (A : Option Addr) (n c : Nat) (f : Nat → Nat) (B : Option Addr) (m d : Nat) (h : Nat → Nat) (w : World) (ha : Rd .i64 w A n f) (hn : n ≤ 1099511627776) (hf : ∀ j, j < n → f j < 256)
    (hb : Rd .i64 w B m h) (hm : m ≤ 1099511627776) (hh : ∀ j, j < m → h j < 256) :
    Calls Try.prog 43 #[.slice A n c, .slice B m d] w fun e w' => e = .returned (.int .i64 (cmpN (num 256 f n) (num 256 h m))) ∧ w' = w := by
  have DA := Lib.hid (fun i => rat_dg A n c i f w ha)
  have DB := Lib.hid (fun i => rat_dg B m d i h w hb)
  have HF := Lib.hid hf
  have HH := Lib.hid hh
  clear ha hb hf hh
  go_enter Try.func43, Try.ntmps43
  go_wp2
  go_loop [5] (fun v => ∃ p : Nat, p ≤ n + m + 1 ∧ v = .int .i64 ((p : Int) - 1) ∧ ∀ j, p ≤ j → j < n + m + 1 → dg f n j = dg h m j) (fun v => (intOf v + 1).toNat)
  case atStart => exact ⟨n + m + 1, Nat.le_refl _, by go_num, fun j h1 h2 => absurd h1 (by omega)⟩
  case round =>
    obtain ⟨p, hp, rfl, hs⟩ := hrel
    have HS := Lib.hid hs
    clear hs
    by_cases h0 : 0 < p
    · obtain ⟨i, rfl⟩ : ∃ i, p = i + 1 := ⟨p - 1, by omega⟩
      have e1 : (((i + 1 : Nat) : Int) - 1) = (i : Int) := by omega
      rw [e1]
      have da := DA.out i
      have db := DB.out i
      have hx := dg_lt HF.out i
      have hy := dg_lt HH.out i
      obtain ⟨x, hxe⟩ : ∃ x, dg f n i = x := ⟨_, rfl⟩
      obtain ⟨y, hye⟩ : ∃ y, dg h m i = y := ⟨_, rfl⟩
      rw [hxe] at da hx
      rw [hye] at db hy
      have HDA := Lib.hid da
      have HDB := Lib.hid db
      have HX := Lib.hid hxe
      have HY := Lib.hid hye
      clear da db hxe hye e1
      by_cases hlt : x < y
      · have HL : Hid (cmpN (num 256 f n) (num 256 h m) = -1) := by
          show _ = _
          unfold cmpN
          rw [if_pos (num_dg_top_lt (q := n + m + 1) (j := i) (by omega) HF.out (by rw [HX.out, HY.out]; exact hlt) (fun j h1 h2 => HS.out j (by omega) h2) (by omega) (by omega))]
        go_wp2_with fail
        refine HDA.out.mono ?_
        rintro e w2 ⟨rfl, hw⟩
        subst w2
        go_wp2_with fail
        refine HDB.out.mono ?_
        rintro e w2 ⟨rfl, hw⟩
        subst w2
        go_wp2
        go_ret
        exact ⟨by rw [HL.out]; rfl, rfl⟩
      · by_cases hgt : y < x
        · have HL : Hid (cmpN (num 256 f n) (num 256 h m) = 1) := by
            show _ = _
            have := num_dg_top_lt (f := h) (h := f) (n := m) (m := n) (q := n + m + 1) (j := i) (by omega) HH.out (by rw [HX.out, HY.out]; exact hgt) (fun j h1 h2 => (HS.out j (by omega) h2).symm) (by omega) (by omega)
            unfold cmpN
            rw [if_neg (by omega), if_neg (by omega)]
          go_wp2_with fail
          refine HDA.out.mono ?_
          rintro e w2 ⟨rfl, hw⟩
          subst w2
          go_wp2_with fail
          refine HDB.out.mono ?_
          rintro e w2 ⟨rfl, hw⟩
          subst w2
          go_wp2_with fail
          refine HDA.out.mono ?_
          rintro e w2 ⟨rfl, hw⟩
          subst w2
          go_wp2_with fail
          refine HDB.out.mono ?_
          rintro e w2 ⟨rfl, hw⟩
          subst w2
          go_wp2
          go_ret
          exact ⟨by rw [HL.out]; rfl, rfl⟩
        · have HE : Hid (∀ j, i ≤ j → j < n + m + 1 → dg f n j = dg h m j) := fun j h1 h2 => by
            by_cases hj : j = i
            · subst hj; rw [HX.out, HY.out]; omega
            · exact HS.out j (by omega) h2
          go_wp2_with fail
          refine HDA.out.mono ?_
          rintro e w2 ⟨rfl, hw⟩
          subst w2
          go_wp2_with fail
          refine HDB.out.mono ?_
          rintro e w2 ⟨rfl, hw⟩
          subst w2
          go_wp2_with fail
          refine HDA.out.mono ?_
          rintro e w2 ⟨rfl, hw⟩
          subst w2
          go_wp2_with fail
          refine HDB.out.mono ?_
          rintro e w2 ⟨rfl, hw⟩
          subst w2
          go_wp2
          go_round
          case rel => exact ⟨i, by omega, rfl, HE.out⟩
          case measure => simp [intOf]
    · obtain rfl : p = 0 := by omega
      have HL : Hid (cmpN (num 256 f n) (num 256 h m) = 0) := by
        show _ = _
        have : num 256 f n = num 256 h m := by
          rw [← num_dg (f := f) (n := n) (m := n + m + 1) (by omega), ← num_dg (f := h) (n := m) (m := n + m + 1) (by omega)]
          exact num_congr _ fun j hj => HS.out j (Nat.zero_le _) hj
        rw [this, cmpN, if_neg (by omega), if_pos rfl]
      go_wp2
      go_ret
      exact ⟨by rw [HL.out]; rfl, rfl⟩

/-- What add keeps. -/
def RaddInv (wr : World) (base : Nat) (v : Value) (i cy : Nat) (F f h : Nat → Nat) : Prop :=
  Own .i64 3 wr base v i F ∧ (∀ j, j < i → F j < 256) ∧ cy ≤ 1 ∧ num 256 F i + cy * 256 ^ i = num 256 f i + num 256 h i

theorem RaddInv.step {w2 : World} {base i cy s : Nat} {v2 : Value} {F f h : Nat → Nat} (h1 : Own .i64 3 w2 base v2 (i + 1) (appF F i (fun _ => s % 256))) (h2 : ∀ j, j < i → F j < 256) (h3 : num 256 F i + cy * 256 ^ i = num 256 f i + num 256 h i)
    (hs : s = f i + h i + cy) (hf : f i < 256) (hh : h i < 256) (hc : cy ≤ 1) : RaddInv w2 base v2 (i + 1) (s / 256) (appF F i (fun _ => s % 256)) f h := by
  refine ⟨h1, fun j hj => ?_, by omega, ?_⟩
  · simp only [appF]
    split
    · exact h2 j ‹_›
    · omega
  · rw [num_succ, num_succ, num_succ, num_congr (f' := F) i (fun j hj => by simp [appF, hj])]
    simp only [appF, Nat.lt_irrefl, if_false]
    have hd := Nat.div_add_mod s 256
    generalize s % 256 = r at *
    generalize s / 256 = q at *
    have e3 : r * 256 ^ i + q * 256 ^ (i + 1) = (f i + h i + cy) * 256 ^ i := by
      rw [← hs, ← hd, Nat.pow_succ, Nat.add_mul, Nat.add_comm]
      congr 1
      rw [Nat.mul_comm (256 ^ i), ← Nat.mul_assoc, Nat.mul_comm q]
    rw [Nat.add_mul, Nat.add_mul] at e3
    omega

set_option maxHeartbeats 1000000 in
theorem radd_any (A : Option Addr) (n c : Nat) (f : Nat → Nat) (B : Option Addr) (m d : Nat) (h : Nat → Nat) (w : World) (ha : Rd .i64 w A n f) (hn : n ≤ 1099511627776) (hf : ∀ j, j < n → f j < 256)
    (hb : Rd .i64 w B m h) (hm : m ≤ 1099511627776) (hh : ∀ j, j < m → h j < 256) :
    Calls Try.prog 45 #[.slice A n c, .slice B m d] w fun e w' => DigPost w w' e (num 256 f n + num 256 h m) := by
  have HA := Lib.hid ha
  have HB := Lib.hid hb
  have HF := Lib.hid hf
  have HH := Lib.hid hh
  clear ha hb hf hh
  go_enter Try.func45, Try.ntmps45
  go_wp2
  go_loopw [5, 6, 7] (fun v5 v6 v7 wr => ∃ i cy F, i ≤ max n m + 1 ∧ v6 = .int .i64 (cy : Nat) ∧ v7 = .int .i64 (i : Nat) ∧ w.heap.size ≤ wr.heap.size ∧ RaddInv wr w.heap.size v5 i cy F (dg f n) (dg h m) ∧ Below w.heap.size w wr) (fun _ _ v7 _ => max n m + 1 - (intOf v7).toNat)
  case atStart => exact ⟨0, 0, fun _ => 0, by omega, rfl, rfl, Nat.le_refl _, ⟨Own.nil, fun j hj => absurd hj (by omega), by omega, rfl⟩, Below.refl _ _⟩
  case round =>
    obtain ⟨i, cy, F, hi, rfl, rfl, hws, hinv, hbl⟩ := hrel
    by_cases hlt : i ≤ n ∨ i ≤ m
    · have DA := Lib.hid (fun wq hq => rat_dg A n c i f wq hq)
      have DB := Lib.hid (fun wq hq => rat_dg B m d i h wq hq)
      have RA := HA.out.below hbl
      have RB := HB.out.below hbl
      have hx := dg_lt HF.out i
      have hy := dg_lt HH.out i
      obtain ⟨o1, o2, hcy, o3⟩ := hinv
      have hrd1 : Rd .i64 (wr.alloc (.cells #[.int .i64 (((dg f n i : Nat) + (dg h m i : Nat) + (cy : Nat) : Int) % 256)] 3)) (some ⟨wr.heap.size, 0, none⟩) 1 (fun _ => (dg f n i + dg h m i + cy) % 256) := (row_one wr ((dg f n i + dg h m i + cy) % 256)).rd0 (Nat.le_refl _)
      have hown1 := o1.alloc (.cells #[.int .i64 (((dg f n i : Nat) + (dg h m i : Nat) + (cy : Nat) : Int) % 256)] 3)
      have hbn := below_new wr (.cells #[.int .i64 (((dg f n i : Nat) + (dg h m i : Nat) + (cy : Nat) : Int) % 256)] 3)
      have HST : Hid (∀ w2 v2, Own .i64 3 w2 w.heap.size v2 (i + 1) (appF F i (fun _ => (dg f n i + dg h m i + cy) % 256)) → RaddInv w2 w.heap.size v2 (i + 1) ((dg f n i + dg h m i + cy) / 256) (appF F i (fun _ => (dg f n i + dg h m i + cy) % 256)) (dg f n) (dg h m)) :=
        fun w2 v2 ho => RaddInv.step ho o2 o3 rfl hx hy hcy
      have O2 := Lib.hid o2
      have O3 := Lib.hid o3
      clear o1 o2 o3
      generalize dg f n i = x at *
      generalize dg h m i = y at *
      have him : i ≤ 1099511627776 := by omega
      have hcase : i ≤ n ∨ (n < i ∧ i ≤ m) := by omega
      clear hlt
      rcases hcase with hln | ⟨hln, hlm⟩
      all_goals
        go_wp2_with fail
        refine (DA.out _ RA).mono ?_
        rintro e w2 ⟨rfl, hw⟩
        subst w2
        go_wp2_with fail
        refine (DB.out _ RB).mono ?_
        rintro e w2 ⟨rfl, hw⟩
        subst w2
        go_wp2_with (at_builtin; refine wpList_app rfl (.tmp 30) (.tmp 33) 47 rfl .i64 3 Try.underlying47 8 i64_info (by omega) w.heap.size u5 i F rfl hown1 (some ⟨wr.heap.size, 0, none⟩) 1 1 (fun _ => (x + y + cy) % 256) rfl hrd1 (fun h => by cases h) (by omega) (by simp; omega) ?_; intro v2 w2 hown2 hb2 hsz2)
        have HS := Lib.hid (HST.out w2 v2 hown2)
        have HB2 := Lib.hid ((hbl.trans (hbn.mono hws)).trans hb2)
        have hws3 : w.heap.size ≤ w2.heap.size := by simp at hsz2; omega
        clear hown2 hb2 hsz2 hbn hown1 hrd1 hbl
        go_wp2
        go_roundw
        case rel => exact ⟨i + 1, (x + y + cy) / 256, _, by omega, by go_num, by go_num, hws3, HS.out, HB2.out⟩
        case measure => simp [intOf]; omega
    · obtain ⟨o1, o2, hcy, o3⟩ := hinv
      rw [num_dg (f := f) (by omega), num_dg (f := h) (by omega)] at o3
      have hc0 : cy = 0 := by
        have h1 := num_lt (B := 256) (f := f) (by omega) n HF.out
        have h2 := num_lt (B := 256) (f := h) (by omega) m HH.out
        have h3 : (256 : Nat) ^ n ≤ 256 ^ (i - 1) := Nat.pow_le_pow_right (by omega) (by omega)
        have h4 : (256 : Nat) ^ m ≤ 256 ^ (i - 1) := Nat.pow_le_pow_right (by omega) (by omega)
        have h5 : (256 : Nat) ^ i = 256 ^ (i - 1) * 256 := by rw [← Nat.pow_succ]; congr 1; omega
        rcases Nat.eq_zero_or_pos cy with h | h
        · exact h
        · obtain rfl : cy = 1 := by omega
          omega
      subst hc0
      have O3 : Hid (num 256 F i = num 256 f n + num 256 h m) := by show _ = _; omega
      have O2 := Lib.hid o2
      have HV : Hid (∃ A c, u5 = .slice A i c ∧ i ≤ c ∧ (A = none → c = 0)) := by
        rcases o1.form with ⟨rfl, h⟩ | ⟨g, c, rfl, _, hc⟩
        · exact ⟨none, 0, by rw [h], by omega, fun _ => rfl⟩
        · exact ⟨_, c, rfl, hc, fun h => by cases h⟩
      obtain ⟨A2, c2, rfl, hc2, hnil⟩ := HV.out
      have hrd := o1.rd_
      have HN := Lib.hid hnil
      have hni : n < i := by omega
      have hmi : m < i := by omega
      clear o1 o2 o3 hnil HV hlt
      go_wp2_with fail
      refine (rcut_any A2 i c2 F wr hrd hc2 (by omega)).mono ?_
      rintro e w2 ⟨rfl, hw⟩
      subst w2
      go_wp2
      go_ret
      have ht := tlen_le (f := F) i
      exact ⟨_, rfl, ⟨A2, _, c2, F, rfl, by omega, HN.out, hrd.less ht, fun j hj => O2.out j (by omega), tlen_trimmed _, by rw [num_tlen]; exact O3.out⟩, hbl⟩
end Go.Proofs.Ytonjecddhbckgaa
