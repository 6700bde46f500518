/- Bytes of whole numbers on the document's side; what is written is read; rows of bytes. -/
import Derived.Test.YtglcififcldchaaGreatDoorPWr
import Derived.Test.YtglcififcldchaaGreatDoorPWp
namespace Go.Proofs.YtglcififcldchaaGreatDoor
open Go.RowKit
attribute [local go_sem ↓] Go.wp_at_zero Go.wp_at_succ
set_option linter.unusedVariables false

theorem own_lit8 (w : World) (g : Nat) (hg : g = w.heap.size) (z base : Nat) (hb : base ≤ g) : Own .u8 5 (w.alloc (.cells #[.int .u8 (z : Nat)] 5)) base (.slice (some ⟨g, 0, none⟩) 1 1) 1 (fun _ => z) := by
  subst hg
  exact ⟨rfl, .inr ⟨w.heap.size, 1, #[.int .u8 (z : Nat)], rfl, hb, heap_alloc_new w _, Nat.le_refl _, by simp [maxLen], rfl, rfl⟩⟩
theorem isIB_own {w : World} {v : Value} {base m p : Nat} {f F : Nat → Nat} {X : Int} (hm : m = 2 + 4 * p) (hr : Own .u8 5 w base v (1 + m) F) (h0 : F 0 = if X < 0 then 1 else 0) (h1 : ∀ j, j < m → F (1 + j) = byteOf p f j)
    (ht : Trimmed f p) (hf : ∀ j, j < p → f j < 4294967296) (hn : num 4294967296 f p = X.natAbs) (hp : p ≤ 4096) : IsIB w v X p := by
  subst hm
  rcases hr.form with ⟨_, h⟩ | ⟨g, c, rfl, _, hc⟩
  · omega
  · refine ⟨f, F, ⟨_, c, by rw [show 1 + (2 + 4 * p) = 3 + 4 * p from by omega], by omega, ?_, fun j hj => ?_⟩, h0, h1, ht, hf, hn, hp⟩
    · rw [show 3 + 4 * p = 1 + (2 + 4 * p) from by omega]; exact hr.rd_
    · rcases Nat.eq_zero_or_pos j with e | e
      · subst e; rw [h0]; split <;> omega
      · obtain ⟨i, rfl⟩ : ∃ i, j = 1 + i := ⟨j - 1, by omega⟩
        rw [h1 i (by omega)]
        exact byteOf_lt i

set_option maxRecDepth 100000 in
set_option maxHeartbeats 4000000 in
theorem rwbytes_f (b : Bool) (A : Option Addr) (n c N k : Nat) (w : World) (h : Lim k w (.slice A n c) N) (hk : k ≤ 4096) (hs : decide (sg b N < 0) = false) :
    Calls Tryz.prog 88 #[.agg #[.bool b, .slice A n c]] w fun e w' => ∃ v p, e = .returned v ∧ IsIB w' v (sg b N) p ∧ Below w.heap.size w w' := by
  have H0 := Lib.hid h
  have F0 := Lib.hid (limI_mk (b := b) h)
  have HS := Lib.hid hs
  have HSV : Hid ((if sg b N < 0 then 1 else 0) = 0) := by
    show _ = _
    rw [if_neg (of_decide_eq_false hs)]
  have HNA : Hid ((sg b N).natAbs = N) := sg_abs b N
  have hfl := fun b A n c w => field_neg b A n c w
  clear h hs
  go_enter Tryz.func88, Tryz.ntmps88
  go_wp2_with fail
  refine Calls.mono (lim_wrbytes (k := k) (N := N) (by repeat (first | (with_reducible first | assumption | (refine Hid.out ?_; assumption) | apply Blk.drew_ | apply LimI.drew_ | apply IsInt.drew_ | apply Lim.drew_ | apply IsNat.drew_) | ((with_reducible refine Blk.new _ _ ?_ _ _) <;> (first | rfl | (simp; done))) | (with_reducible first | refine LimI.alloc_ ?_ _ | refine IsInt.alloc_ ?_ _ | refine Lim.alloc_ ?_ _ | refine IsNat.alloc_ ?_ _ | refine Blk.alloc_ ?_ _ | apply Blk.own2 | refine Blk.other2 ?_ (by omega) | apply LimI.other2 | apply IsInt.other2 | apply IsNat.other2 | apply Lim.other2 | (apply Blk.below; rotate_left; assumption) | (apply LimI.below; rotate_left; assumption) | (apply IsInt.below; rotate_left; assumption) | (apply Lim.below; rotate_left; assumption) | (apply IsNat.below; rotate_left; assumption)))) hk) ?_
  rintro e w1 ⟨v1, p, rfl, h1, hb1⟩
  obtain ⟨f, hby, ht, hf, hnum, hp⟩ := h1
  obtain ⟨S, sc, rfl, hby⟩ := hby.form
  have BY := Lib.hid hby
  have TR := Lib.hid ht
  have HF := Lib.hid hf
  have NU := Lib.hid hnum
  obtain ⟨m, hm⟩ : ∃ m, m = 2 + 4 * p := ⟨_, rfl⟩
  rw [← hm] at BY
  have HM := Lib.hid hm
  have hm0 : ((m : Int) == 0) = false := by rw [beq_eq_false_iff_ne]; omega
  have hm1 : m ≤ 20000 := by omega
  have hm2 : 2 ≤ m := by omega
  have k1 := Blk.below (g := w.heap.size) (t := 24) (cs := #[.bool b, .slice A n c]) (by repeat (first | (with_reducible first | assumption | (refine Hid.out ?_; assumption) | apply Blk.drew_) | ((with_reducible refine Blk.new _ _ ?_ _ _) <;> (first | rfl | (simp; done))) | (with_reducible first | refine Blk.alloc_ ?_ _ | apply Blk.own2 | refine Blk.other2 ?_ (by omega) | (apply Blk.below; rotate_left; assumption)))) hb1
  have p1 := k1.cell0
  have q1 := k1.cell1
  have d1 := k1.lt
  have L1 := Lib.hid (show LimI k w1 (.agg #[.bool b, .slice A n c]) (sg b N) from (by repeat (first | (with_reducible first | assumption | (refine Hid.out ?_; assumption) | apply Blk.drew_ | apply LimI.drew_ | apply IsInt.drew_ | apply Lim.drew_ | apply IsNat.drew_) | ((with_reducible refine Blk.new _ _ ?_ _ _) <;> (first | rfl | (simp; done))) | (with_reducible first | refine LimI.alloc_ ?_ _ | refine IsInt.alloc_ ?_ _ | refine Lim.alloc_ ?_ _ | refine IsNat.alloc_ ?_ _ | refine Blk.alloc_ ?_ _ | apply Blk.own2 | refine Blk.other2 ?_ (by omega) | apply LimI.other2 | apply IsInt.other2 | apply IsNat.other2 | apply Lim.other2 | (apply Blk.below; rotate_left; assumption) | (apply LimI.below; rotate_left; assumption) | (apply IsInt.below; rotate_left; assumption) | (apply Lim.below; rotate_left; assumption) | (apply IsNat.below; rotate_left; assumption)))))
  have HB1 := Lib.hid (show Below w.heap.size w w1 from (by repeat first | exact Below.refl _ _ | (with_reducible refine Below.trans ?_ (Below.mono (by with_reducible assumption) ?_)) | (with_reducible refine Below.alloc_ ?_ ?_ _) | (with_reducible refine Below.drew ?_) | (with_reducible refine Below.set2 ?_ ?_) | exact Nat.le_refl _ | omega | focus (simp <;> omega)))
  rw [← hm]
  clear k1 hb1 hby ht hf hnum hm
  go_wp2_with fail
  refine Calls.mono (li_rplain (k := k) L1.out (by omega)) ?_
  rintro e w2 ⟨v2, rfl, ⟨m2, rfl, h2⟩, hb2⟩
  obtain ⟨A2, n2, c2, rfl, hn2, h2⟩ := isNat_form h2
  rw [HS.out]
  have BY2 := Lib.hid (BY.out.below hb2)
  have HB2 := Lib.hid (below_trans HB1.out hb2)
  have RD2 := Lib.hid (BY2.out.below (below_new w2 (.cells #[.int .u8 0] 5))).rd
  have OL := Lib.hid (own_lit8 w2 w2.heap.size rfl 0 w.heap.size HB2.out.size)
  have hSn : S = none → m = 0 ∧ sc = 0 := fun e => by
    subst e
    obtain ⟨ad, e2, _⟩ := BY2.out.rd.some_ (by omega)
    cases e2
  have hz2 : w.heap.size ≤ w2.heap.size := HB2.out.size
  clear hb2 BY HB1 L1 BY2
  go_wp2_with (at_builtin; refine wpList_app rfl (.tmp 16) (.tmp 17) 40 rfl .u8 5 Tryz.underlying40 1 u8_info (by omega) w.heap.size _ 1 (fun _ => 0) rfl OL.out S m sc (byteOf p f) rfl RD2.out hSn (by omega) (by simp; omega) ?_; intro v3 w3 hown3 hb3 hs3)
  go_ret
  refine ⟨_, p, rfl, isIB_own HM.out hown3 ?_ ?_ TR.out HF.out (by rw [HNA.out]; exact NU.out) hp, (Below.alloc_ HB2.out HB2.out.size _).trans hb3⟩
  · rw [HSV.out]; rfl
  · intro j hj
    simp only [appF]
    rw [if_neg (by omega), show 1 + j - 1 = j from by omega]

set_option maxRecDepth 100000 in
set_option maxHeartbeats 4000000 in
theorem rwbytes_t (b : Bool) (A : Option Addr) (n c N k : Nat) (w : World) (h : Lim k w (.slice A n c) N) (hk : k ≤ 4096) (hs : decide (sg b N < 0) = true) :
    Calls Tryz.prog 88 #[.agg #[.bool b, .slice A n c]] w fun e w' => ∃ v p, e = .returned v ∧ IsIB w' v (sg b N) p ∧ Below w.heap.size w w' := by
  have H0 := Lib.hid h
  have F0 := Lib.hid (limI_mk (b := b) h)
  have HS := Lib.hid hs
  have HSV : Hid ((if sg b N < 0 then 1 else 0) = 1) := by
    show _ = _
    rw [if_pos (of_decide_eq_true hs)]
  have HNA : Hid ((sg b N).natAbs = N) := sg_abs b N
  have hfl := fun b A n c w => field_neg b A n c w
  clear h hs
  go_enter Tryz.func88, Tryz.ntmps88
  go_wp2_with fail
  refine Calls.mono (lim_wrbytes (k := k) (N := N) (by repeat (first | (with_reducible first | assumption | (refine Hid.out ?_; assumption) | apply Blk.drew_ | apply LimI.drew_ | apply IsInt.drew_ | apply Lim.drew_ | apply IsNat.drew_) | ((with_reducible refine Blk.new _ _ ?_ _ _) <;> (first | rfl | (simp; done))) | (with_reducible first | refine LimI.alloc_ ?_ _ | refine IsInt.alloc_ ?_ _ | refine Lim.alloc_ ?_ _ | refine IsNat.alloc_ ?_ _ | refine Blk.alloc_ ?_ _ | apply Blk.own2 | refine Blk.other2 ?_ (by omega) | apply LimI.other2 | apply IsInt.other2 | apply IsNat.other2 | apply Lim.other2 | (apply Blk.below; rotate_left; assumption) | (apply LimI.below; rotate_left; assumption) | (apply IsInt.below; rotate_left; assumption) | (apply Lim.below; rotate_left; assumption) | (apply IsNat.below; rotate_left; assumption)))) hk) ?_
  rintro e w1 ⟨v1, p, rfl, h1, hb1⟩
  obtain ⟨f, hby, ht, hf, hnum, hp⟩ := h1
  obtain ⟨S, sc, rfl, hby⟩ := hby.form
  have BY := Lib.hid hby
  have TR := Lib.hid ht
  have HF := Lib.hid hf
  have NU := Lib.hid hnum
  obtain ⟨m, hm⟩ : ∃ m, m = 2 + 4 * p := ⟨_, rfl⟩
  rw [← hm] at BY
  have HM := Lib.hid hm
  have hm0 : ((m : Int) == 0) = false := by rw [beq_eq_false_iff_ne]; omega
  have hm1 : m ≤ 20000 := by omega
  have hm2 : 2 ≤ m := by omega
  have k1 := Blk.below (g := w.heap.size) (t := 24) (cs := #[.bool b, .slice A n c]) (by repeat (first | (with_reducible first | assumption | (refine Hid.out ?_; assumption) | apply Blk.drew_) | ((with_reducible refine Blk.new _ _ ?_ _ _) <;> (first | rfl | (simp; done))) | (with_reducible first | refine Blk.alloc_ ?_ _ | apply Blk.own2 | refine Blk.other2 ?_ (by omega) | (apply Blk.below; rotate_left; assumption)))) hb1
  have p1 := k1.cell0
  have q1 := k1.cell1
  have d1 := k1.lt
  have L1 := Lib.hid (show LimI k w1 (.agg #[.bool b, .slice A n c]) (sg b N) from (by repeat (first | (with_reducible first | assumption | (refine Hid.out ?_; assumption) | apply Blk.drew_ | apply LimI.drew_ | apply IsInt.drew_ | apply Lim.drew_ | apply IsNat.drew_) | ((with_reducible refine Blk.new _ _ ?_ _ _) <;> (first | rfl | (simp; done))) | (with_reducible first | refine LimI.alloc_ ?_ _ | refine IsInt.alloc_ ?_ _ | refine Lim.alloc_ ?_ _ | refine IsNat.alloc_ ?_ _ | refine Blk.alloc_ ?_ _ | apply Blk.own2 | refine Blk.other2 ?_ (by omega) | apply LimI.other2 | apply IsInt.other2 | apply IsNat.other2 | apply Lim.other2 | (apply Blk.below; rotate_left; assumption) | (apply LimI.below; rotate_left; assumption) | (apply IsInt.below; rotate_left; assumption) | (apply Lim.below; rotate_left; assumption) | (apply IsNat.below; rotate_left; assumption)))))
  have HB1 := Lib.hid (show Below w.heap.size w w1 from (by repeat first | exact Below.refl _ _ | (with_reducible refine Below.trans ?_ (Below.mono (by with_reducible assumption) ?_)) | (with_reducible refine Below.alloc_ ?_ ?_ _) | (with_reducible refine Below.drew ?_) | (with_reducible refine Below.set2 ?_ ?_) | exact Nat.le_refl _ | omega | focus (simp <;> omega)))
  rw [← hm]
  clear k1 hb1 hby ht hf hnum hm
  go_wp2_with fail
  refine Calls.mono (li_rplain (k := k) L1.out (by omega)) ?_
  rintro e w2 ⟨v2, rfl, ⟨m2, rfl, h2⟩, hb2⟩
  obtain ⟨A2, n2, c2, rfl, hn2, h2⟩ := isNat_form h2
  rw [HS.out]
  have BY2 := Lib.hid (BY.out.below hb2)
  have HB2 := Lib.hid (below_trans HB1.out hb2)
  have RD2 := Lib.hid (BY2.out.below (below_new w2 (.cells #[.int .u8 1] 5))).rd
  have OL := Lib.hid (own_lit8 w2 w2.heap.size rfl 1 w.heap.size HB2.out.size)
  have hSn : S = none → m = 0 ∧ sc = 0 := fun e => by
    subst e
    obtain ⟨ad, e2, _⟩ := BY2.out.rd.some_ (by omega)
    cases e2
  have hz2 : w.heap.size ≤ w2.heap.size := HB2.out.size
  clear hb2 BY HB1 L1 BY2
  go_wp2_with (at_builtin; refine wpList_app rfl (.tmp 13) (.tmp 14) 40 rfl .u8 5 Tryz.underlying40 1 u8_info (by omega) w.heap.size _ 1 (fun _ => 1) rfl OL.out S m sc (byteOf p f) rfl RD2.out hSn (by omega) (by simp; omega) ?_; intro v3 w3 hown3 hb3 hs3)
  go_ret
  refine ⟨_, p, rfl, isIB_own HM.out hown3 ?_ ?_ TR.out HF.out (by rw [HNA.out]; exact NU.out) hp, (Below.alloc_ HB2.out HB2.out.size _).trans hb3⟩
  · rw [HSV.out]; rfl
  · intro j hj
    simp only [appF]
    rw [if_neg (by omega), show 1 + j - 1 = j from by omega]

theorem li_rwbytes {k : Nat} {w : World} {v : Value} {X : Int} (h : LimI k w v X) (hk : k ≤ 4096) : Calls Tryz.prog 88 #[v] w fun e w' => ∃ v p, e = .returned v ∧ IsIB w' v X p ∧ Below w.heap.size w w' := by
  obtain ⟨b, m, N, rfl, ⟨A, n, c, f, rfl, hr⟩, rfl⟩ := h
  have L : Lim k w (.slice A n c) N := ⟨A, n, c, f, rfl, hr⟩
  cases hs : decide (sg b N < 0)
  · exact rwbytes_f b A n c N k w L hk hs
  · exact rwbytes_t b A n c N k w L hk hs
end Go.Proofs.YtglcififcldchaaGreatDoor
