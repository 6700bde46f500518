/- awake. -/
import Derived.Test.YtonjecddhbckgaaCw
namespace Go.Proofs.Ytonjecddhbckgaa
open Go.RowKit

theorem awake_text : decS 1844674407370955161 = ⟨#[49, 56, 52, 52, 54, 55, 52, 52, 48, 55, 51, 55, 48, 57, 53, 53, 49, 54, 49]⟩ := by
  unfold decS decText
  rw [if_neg (by omega), ← decK_dec 19 _ (by omega) (by omega) (by omega)]
  rfl

theorem awake_num : IsNum ⟨#[52, 50, 57, 52, 57, 54, 55, 50, 57, 54]⟩ := by
  refine ⟨by decide, by decide, by decide, ?_⟩
  have : ∀ i : Fin 10, 48 ≤ bt ⟨#[52, 50, 57, 52, 57, 54, 55, 50, 57, 54]⟩ i.val ∧ bt ⟨#[52, 50, 57, 52, 57, 54, 55, 50, 57, 54]⟩ i.val ≤ 57 := by decide
  exact fun i hi => this ⟨i, hi⟩
theorem awake_val : dval (bt ⟨#[52, 50, 57, 52, 57, 54, 55, 50, 57, 54]⟩) (ByteArray.size ⟨#[52, 50, 57, 52, 57, 54, 55, 50, 57, 54]⟩) = 4294967296 := by decide

theorem awake_cmp {w : World} {v1 v2 : Value} (h1 : Lim 2 w v1 1) (h2 : Lim 1 w v2 1) : Calls Try.prog 18 #[v1, v2] w fun e w' => e = .returned (.int .i64 0) ∧ Below w.heap.size w w' := by
  have := lim_cmp h1 h2 (by omega) (by omega)
  unfold CmpPost at this
  rw [show cmpN 1 1 = 0 from by decide] at this
  exact this

set_option maxHeartbeats 2000000 in
theorem awake_any (w : World) : Calls Try.prog 12 #[] w fun e w' => e = .returned (.bool true) ∧ Below w.heap.size w w' := by
  go_enter Try.func12, Try.ntmps12
  go_wp2_with fail
  refine (lim_div_one (k := 3) (m := 1) (N := 18446744073709551616) (M := 10) ((lit_three w _ rfl 0 0 1 _ _ _ rfl rfl rfl (by omega) (by omega) (by omega)).below (below_new _ _)) (lit_one _ _ (by simp) 10 _ rfl (by omega)) (by omega) (by omega) (by omega) (by omega) (by omega)).mono ?_
  intro e w1 h1
  obtain ⟨vq, vr, rfl, hq, hr, hb1⟩ := h1.yes (by omega)
  have Hq : Hid (IsNat w1 vq 1844674407370955161) := hq
  have Hr : Hid (IsNat w1 vr 6) := hr
  have HB1 : Hid (Below w.heap.size w w1) := ((below_new w _).trans ((below_new _ _).mono (by simp))).trans (hb1.mono (by simp; omega))
  clear hq hr hb1 h1
  go_wp2_with fail
  refine (lim_div_zero (k := 1) (m := 1) (N := 1) ((lit_one w1 _ rfl 1 _ rfl (by omega)).below (below_new _ _)) (lit_one _ _ (by simp) 0 _ rfl (by omega)) (by omega) (by omega)).mono ?_
  intro e w2 h2
  obtain ⟨v3, v4, rfl, h3, h4, hb2⟩ := h2.no
  have hb2' : Below w1.heap.size w1 w2 := (((below_new w1 _).trans ((below_new _ _).mono (by simp))).trans (hb2.mono (by simp; omega)))
  have Hq2 := Lib.hid (Hq.out.below hb2')
  have Hr2 := Lib.hid (Hr.out.below hb2')
  have HB2 := Lib.hid (below_trans HB1.out hb2')
  clear h3 h4 hb2 hb2' Hq Hr HB1 h2
  go_wp2_with fail
  refine (lim_sub (k := 2) (m := 1) (N := 4294967296) (M := 1) ((lit_two w2 _ rfl 0 1 _ _ rfl rfl (by omega) (by omega)).below (below_new _ _)) (lit_one _ _ (by simp) 1 _ rfl (by omega)) (by omega) (by omega)).mono ?_
  intro e w3 h3
  obtain ⟨vd, rfl, hd, hb3⟩ := h3.yes (by omega)
  have hb3' : Below w2.heap.size w2 w3 := (((below_new w2 _).trans ((below_new _ _).mono (by simp))).trans (hb3.mono (by simp; omega)))
  have Hd3 : Hid (IsNat w3 vd 4294967295) := hd
  have Hq3 := Lib.hid (Hq2.out.below hb3')
  have Hr3 := Lib.hid (Hr2.out.below hb3')
  have HB3 := Lib.hid (below_trans HB2.out hb3')
  clear hd hb3 hb3' Hq2 Hr2 HB2 h3
  go_wp2_with fail
  have D4 := parse_yes _ w3 awake_num
  rw [awake_val] at D4
  refine D4.mono ?_
  rintro e w4 ⟨vp, rfl, hp, hb4⟩
  have Hp4 := Lib.hid hp
  have Hd4 := Lib.hid (Hd3.out.below hb4)
  have Hq4 := Lib.hid (Hq3.out.below hb4)
  have Hr4 := Lib.hid (Hr3.out.below hb4)
  have HB4 := Lib.hid (below_trans HB3.out hb4)
  clear hp hb4 Hd3 Hq3 Hr3 HB3 D4
  go_wp2_with fail
  have D5 := lim_text (k := 2) (Hq4.out.lim (by decide)) (by omega)
  rw [awake_text] at D5
  refine D5.mono ?_
  rintro e w5 ⟨rfl, hb5⟩
  have Hp5 := Lib.hid (Hp4.out.below hb5)
  have Hd5 := Lib.hid (Hd4.out.below hb5)
  have Hr5 := Lib.hid (Hr4.out.below hb5)
  have HB5 := Lib.hid (below_trans HB4.out hb5)
  clear hb5 Hp4 Hd4 Hq4 Hr4 HB4 D5
  go_wp2_with fail
  refine (isNat_same (k := 1) (Hr5.out.below (below_new _ _)) (nlit_one _ _ rfl 6 _ rfl (by omega) (by omega)) (by decide) (by omega)).mono ?_
  rintro e w6 ⟨rfl, hb⟩
  have hb' : Below w5.heap.size w5 w6 := (below_new w5 _).trans (hb.mono (by simp; try omega))
  have Hp5_6 := Lib.hid (Hp5.out.below hb')
  have Hd5_6 := Lib.hid (Hd5.out.below hb')
  have HB_6 := Lib.hid (below_trans HB5.out hb')
  clear hb hb' Hp5 Hd5 Hr5 HB5
  go_wp2_with fail
  refine (isNat_same (k := 1) (Hd5_6.out.below (below_new _ _)) (nlit_one _ _ rfl 4294967295 _ rfl (by omega) (by omega)) (by decide) (by omega)).mono ?_
  rintro e w7 ⟨rfl, hb⟩
  have hb' : Below w6.heap.size w6 w7 := (below_new w6 _).trans (hb.mono (by simp; try omega))
  have Hp5_7 := Lib.hid (Hp5_6.out.below hb')
  have HB_7 := Lib.hid (below_trans HB_6.out hb')
  clear hb hb' Hp5_6 Hd5_6 HB_6
  go_wp2_with fail
  refine (lim_mul (k := 1) (m := 1) (N := 2147483648) (M := 2) ((lit_one _ _ rfl 2147483648 _ rfl (by omega)).below (below_new _ _)) (lit_one _ _ (by simp) 2 _ rfl (by omega)) (by omega) (by omega)).mono ?_
  rintro e w8 ⟨vm, rfl, hm, hb⟩
  have hb' : Below w7.heap.size w7 w8 := ((below_new w7 _).trans ((below_new _ _).mono (by simp; try omega))).trans (hb.mono (by simp; try omega))
  have Hp5_8 := Lib.hid (Hp5_7.out.below hb')
  have Hm_8 : Hid (IsNat w8 vm 4294967296) := hm
  have HB_8 := Lib.hid (below_trans HB_7.out hb')
  clear hb hb' hm Hp5_7 HB_7
  go_wp2_with fail
  refine (isNat_same (k := 2) (Hm_8.out.below (below_new _ _)) (nlit_two _ _ rfl 0 1 _ _ rfl rfl (by omega) (by omega) (by omega)) (by decide) (by omega)).mono ?_
  rintro e w9 ⟨rfl, hb⟩
  have hb' : Below w8.heap.size w8 w9 := (below_new w8 _).trans (hb.mono (by simp; try omega))
  have Hp5_9 := Lib.hid (Hp5_8.out.below hb')
  have HB_9 := Lib.hid (below_trans HB_8.out hb')
  clear hb hb' Hp5_8 Hm_8 HB_8
  go_wp2_with fail
  refine (isNat_same (k := 2) (Hp5_9.out.below (below_new _ _)) (nlit_two _ _ rfl 0 1 _ _ rfl rfl (by omega) (by omega) (by omega)) (by decide) (by omega)).mono ?_
  rintro e w10 ⟨rfl, hb⟩
  have hb' : Below w9.heap.size w9 w10 := (below_new w9 _).trans (hb.mono (by simp; try omega))
  have HB_10 := Lib.hid (below_trans HB_9.out hb')
  clear hb hb' Hp5_9 HB_9
  go_wp2_with fail
  refine (lim_add (k := 1) (m := 1) (N := 4294967295) (M := 1) ((lit_one _ _ rfl 4294967295 _ rfl (by omega)).below (below_new _ _)) (lit_one _ _ (by simp) 1 _ rfl (by omega)) (by omega) (by omega)).mono ?_
  rintro e w11 ⟨va, rfl, ha, hb⟩
  have hb' : Below w10.heap.size w10 w11 := ((below_new w10 _).trans ((below_new _ _).mono (by simp; try omega))).trans (hb.mono (by simp; try omega))
  have Ha_11 : Hid (IsNat w11 va 4294967296) := ha
  have HB_11 := Lib.hid (below_trans HB_10.out hb')
  clear hb hb' ha HB_10
  go_wp2_with fail
  refine (isNat_same (k := 2) (Ha_11.out.below (below_new _ _)) (nlit_two _ _ rfl 0 1 _ _ rfl rfl (by omega) (by omega) (by omega)) (by decide) (by omega)).mono ?_
  rintro e w12 ⟨rfl, hb⟩
  have hb' : Below w11.heap.size w11 w12 := (below_new w11 _).trans (hb.mono (by simp; try omega))
  have HB_12 := Lib.hid (below_trans HB_11.out hb')
  clear hb hb' Ha_11 HB_11
  go_wp2_with fail
  refine (awake_cmp ((lit_two _ _ rfl 1 0 _ _ rfl rfl (by omega) (by omega)).below (below_new _ _)) (lit_one _ _ (by simp) 1 _ rfl (by omega))).mono ?_
  rintro e w13 ⟨rfl, hb⟩
  have hb' : Below w12.heap.size w12 w13 := ((below_new w12 _).trans ((below_new _ _).mono (by simp; try omega))).trans (hb.mono (by simp; try omega))
  have HB_13 := Lib.hid (below_trans HB_12.out hb')
  clear hb hb' HB_12
  go_wp2
  go_ret
  exact ⟨rfl, HB_13.out⟩
end Go.Proofs.Ytonjecddhbckgaa
