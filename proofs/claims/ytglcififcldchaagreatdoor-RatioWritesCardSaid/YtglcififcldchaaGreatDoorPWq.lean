/- Contracts of whole: Bytes. -/
import Derived.Test.YtglcififcldchaaGreatDoorPWp
import Derived.IntWalk
namespace Go.Proofs.YtglcififcldchaaGreatDoor
open Go.RowKit
attribute [local go_sem ↓] Go.wp_at_zero Go.wp_at_succ
set_option linter.unusedVariables false

/-- The bytes of a whole number whose size has p limbs. -/
def IsIB (w : World) (v : Value) (X : Int) (p : Nat) : Prop :=
  ∃ f G, Byt w v (3 + 4 * p) G ∧ G 0 = (if X < 0 then 1 else 0) ∧ (∀ j, j < 2 + 4 * p → G (1 + j) = byteOf p f j) ∧ Trimmed f p ∧ (∀ j, j < p → f j < 4294967296) ∧ num 4294967296 f p = X.natAbs ∧ p ≤ 4096
theorem Byt.rd {w : World} {S : Option Addr} {m c n : Nat} {f : Nat → Nat} (h : Byt w (.slice S m c) n f) : Rd .u8 w S n f := by
  obtain ⟨A, c', e, _, h2, _⟩ := h
  injection e with e1 _ _
  subst e1
  exact h2
theorem Byt.off {w : World} {S : Option Addr} {m c n g : Nat} {f : Nat → Nat} (h : Byt w (.slice S m c) n f) (hn : 0 < n) (hg : w.heap.size ≤ g) : Off S g := h.rd.off_lt hn hg
theorem Byt.wr {w w' : World} {S : Option Addr} {m c n g : Nat} {f : Nat → Nat} (h : Byt w (.slice S m c) n f) (ho : Off S g) (hw : Wr g w w') : Byt w' (.slice S m c) n f := by
  obtain ⟨A, c', e, h1, h2, h3⟩ := h
  injection e with e1 e2 e3
  subst e1
  exact ⟨S, c', by rw [e2, e3], h1, h2.wr ho hw, h3⟩
theorem sl_one (g m : Nat) (hm : 0 < m) (wq : World) : (Instr.slice 40 (.slice (some ⟨g, 0, none⟩) (m + 1) (m + 1)) (some (.int .i64 1)) none none).run Tryz.prog wq = .ok (.slice (some ⟨g, 1, none⟩) m m) wq := by
  have := sl32_l g 0 (m + 1) (m + 1) 1 (by omega) (by omega) wq
  simpa using this
theorem row_own {w : World} {g n n' base : Nat} {F : Nat → Nat} (h : Row .u8 5 w g n F) (hb : base ≤ g) (hn : n ≤ maxLen) (he : n' = n) : Own .u8 5 w base (.slice (some ⟨g, 0, none⟩) n n) n' F := by
  subst he
  obtain ⟨cs, h1, h2, h3⟩ := h
  refine ⟨by simp, .inr ⟨g, n', cs, rfl, hb, h1, Nat.le_refl _, hn, by omega, ?_⟩⟩
  rw [Nat.mul_one, List.take_of_length_le (by simp [h2])]
  apply List.ext_getElem?
  intro i
  by_cases hi : i < n'
  · have := h3 i hi
    simp [hi, this]
  · simp [hi]; omega
/-- The bytes of a whole number, in a block of the call's own. -/
def IBO (w : World) (v : Value) (X : Int) (p base : Nat) : Prop := IsIB w v X p ∧ ∃ F, Own .u8 5 w base v (3 + 4 * p) F
theorem isIB_row {w : World} {g m p : Nat} {t : TypeId} {f F : Nat → Nat} {X : Int} (hm : m = 2 + 4 * p) (hr : Row .u8 t w g (m + 1) F) (h0 : F 0 = if X < 0 then 1 else 0) (h1 : ∀ j, j < m → F (1 + j) = byteOf p f j)
    (ht : Trimmed f p) (hf : ∀ j, j < p → f j < 4294967296) (hn : num 4294967296 f p = X.natAbs) (hp : p ≤ 4096) : IsIB w (.slice (some ⟨g, 0, none⟩) (m + 1) (m + 1)) X p := by
  subst hm
  refine ⟨f, F, ⟨_, 2 + 4 * p + 1, by rw [show 2 + 4 * p + 1 = 3 + 4 * p from by omega], by omega, ?_, fun j hj => ?_⟩, h0, h1, ht, hf, hn, hp⟩
  · exact hr.rd0 (by omega)
  · rcases Nat.eq_zero_or_pos j with e | e
    · subst e; rw [h0]; split <;> omega
    · obtain ⟨i, rfl⟩ : ∃ i, j = 1 + i := ⟨j - 1, by omega⟩
      rw [h1 i (by omega)]
      exact byteOf_lt i

set_option maxRecDepth 100000 in
set_option maxHeartbeats 4000000 in
theorem wbytes_f (b : Bool) (A : Option Addr) (n c N k : Nat) (w : World) (h : Lim k w (.slice A n c) N) (hk : k ≤ 4096) (hs : decide (sg b N < 0) = false) :
    Calls Tryz.prog 84 #[.agg #[.bool b, .slice A n c]] w fun e w' => ∃ v p, e = .returned v ∧ IBO w' v (sg b N) p w.heap.size ∧ Below w.heap.size w w' := by
  have H0 := Lib.hid h
  have HS := Lib.hid hs
  have HSV : Hid ((if sg b N < 0 then 1 else 0) = 0) := by
    show _ = _
    rw [if_neg (of_decide_eq_false hs)]
  have HNA : Hid ((sg b N).natAbs = N) := sg_abs b N
  clear h hs
  go_enter Tryz.func84, Tryz.ntmps84
  go_wp2_with fail
  refine Calls.mono (lim_wbytes (k := k) (N := N) (by repeat (first | (with_reducible first | assumption | (refine Hid.out ?_; assumption) | apply Blk.drew_ | apply LimI.drew_ | apply IsInt.drew_ | apply Lim.drew_ | apply IsNat.drew_) | ((with_reducible refine Blk.new _ _ ?_ _ _) <;> (first | rfl | (simp; done))) | (with_reducible first | refine LimI.alloc_ ?_ _ | refine IsInt.alloc_ ?_ _ | refine Lim.alloc_ ?_ _ | refine IsNat.alloc_ ?_ _ | refine Blk.alloc_ ?_ _ | apply Blk.own2 | refine Blk.other2 ?_ (by omega) | apply LimI.other2 | apply IsInt.other2 | apply IsNat.other2 | apply Lim.other2 | (apply Blk.below; rotate_left; assumption) | (apply LimI.below; rotate_left; assumption) | (apply IsInt.below; rotate_left; assumption) | (apply Lim.below; rotate_left; assumption) | (apply IsNat.below; rotate_left; assumption)))) hk) ?_
  rintro e w1 ⟨v1, p, rfl, h1, hb1⟩
  obtain ⟨f, hby, ht, hf, hnum, hp⟩ := h1
  obtain ⟨S, sc, rfl, hby⟩ := hby.form
  have BY := Lib.hid hby
  have TR := Lib.hid ht
  have HF := Lib.hid hf
  have NU := Lib.hid hnum
  obtain ⟨m, hm⟩ : ∃ m, m = 2 + 4 * p := ⟨_, rfl⟩
  rw [← hm] at BY
  have HM := Lib.hid hm
  have hm0 : ((m : Int) == 0) = false := by rw [beq_eq_false_iff_ne]; omega
  have hmw : IntKind.i64.wrap (1 + (m : Int)) = 1 + (m : Int) := IntWalk.i64_in _ (by omega)
  have hm1 : m ≤ 20000 := by omega
  have hm2 : 2 ≤ m := by omega
  have k1 := Blk.below (g := w.heap.size) (t := 24) (cs := #[.bool b, .slice A n c]) (by repeat (first | (with_reducible first | assumption | (refine Hid.out ?_; assumption) | apply Blk.drew_) | ((with_reducible refine Blk.new _ _ ?_ _ _) <;> (first | rfl | (simp; done))) | (with_reducible first | refine Blk.alloc_ ?_ _ | apply Blk.own2 | refine Blk.other2 ?_ (by omega) | (apply Blk.below; rotate_left; assumption)))) hb1
  have p1 := k1.cell0
  have q1 := k1.cell1
  have K1 := Lib.hid k1
  have d1 := k1.lt
  have L1 := Lib.hid (show Lim k w1 (.slice A n c) N from (by repeat (first | (with_reducible first | assumption | (refine Hid.out ?_; assumption) | apply Blk.drew_ | apply LimI.drew_ | apply IsInt.drew_ | apply Lim.drew_ | apply IsNat.drew_) | ((with_reducible refine Blk.new _ _ ?_ _ _) <;> (first | rfl | (simp; done))) | (with_reducible first | refine LimI.alloc_ ?_ _ | refine IsInt.alloc_ ?_ _ | refine Lim.alloc_ ?_ _ | refine IsNat.alloc_ ?_ _ | refine Blk.alloc_ ?_ _ | apply Blk.own2 | refine Blk.other2 ?_ (by omega) | apply LimI.other2 | apply IsInt.other2 | apply IsNat.other2 | apply Lim.other2 | (apply Blk.below; rotate_left; assumption) | (apply LimI.below; rotate_left; assumption) | (apply IsInt.below; rotate_left; assumption) | (apply Lim.below; rotate_left; assumption) | (apply IsNat.below; rotate_left; assumption)))))
  have HB1 := Lib.hid (show Below w.heap.size w w1 from (by repeat first | exact Below.refl _ _ | (with_reducible refine Below.trans ?_ (Below.mono (by with_reducible assumption) ?_)) | (with_reducible refine Below.alloc_ ?_ ?_ _) | (with_reducible refine Below.drew ?_) | (with_reducible refine Below.set2 ?_ ?_) | exact Nat.le_refl _ | omega | focus (simp <;> omega)))
  rw [← hm]
  clear k1 hb1 hby ht hf hnum hm
  go_wp2_with (at_make; refine wpList_make_row rfl _ _ 40 rfl .u8 5 Tryz.underlying40 1 u8_info (by omega) .i64 .i64 _ _ (m + 1) rfl rfl (by omega) (by omega) (by omega) ?_; intro w2 hrow2 hb2 hs2; have hc2 := hrow2.cell (j := 0) (by omega); have hf2 := hrow2.frozen 0; have k2 := Blk.below (g := w.heap.size) (t := 24) (cs := #[.bool b, .slice A n c]) (by repeat (first | (with_reducible first | assumption | (refine Hid.out ?_; assumption) | apply Blk.drew_) | ((with_reducible refine Blk.new _ _ ?_ _ _) <;> (first | rfl | (simp; done))) | (with_reducible first | refine Blk.alloc_ ?_ _ | apply Blk.own2 | refine Blk.other2 ?_ (by omega) | (apply Blk.below; rotate_left; assumption)))) hb2; have p2 := k2.cell0; have q2 := k2.cell1)
  have HR2 := Lib.hid (hrow2.set_ 0 0)
  have HB2 := Lib.hid (show Below w.heap.size w (w2.setCell ⟨w1.heap.size, 0, none⟩ (.int .u8 (0 : Nat))) from (HB1.out.trans (hb2.mono (by omega))).setCell (by simp; omega) _)
  have L2 := Lib.hid (show Lim k (w2.setCell ⟨w1.heap.size, 0, none⟩ (.int .u8 (0 : Nat))) (.slice A n c) N from by
    have := L1.out.below hb2
    obtain ⟨A', n', c', f', e1, e2, e3, e4⟩ := this
    exact ⟨A', n', c', f', e1, e2, e3.apart hc2 (fun z e => by cases e) _, e4⟩)
  have HOF := Lib.hid (Byt.off BY.out (show 0 < m by omega) (Nat.le_refl _))
  have BY2 := Lib.hid (Byt.wr (BY.out.below hb2) HOF.out (Wr.set_ w2 w1.heap.size 0 (.int .u8 (0 : Nat))))
  have hg2 : w1.heap.size < w2.heap.size := hrow2.lt
  have hsl := fun wq => sl_one w1.heap.size m (by omega) wq
  clear hrow2 hb2 hs2 L1 HB1 BY hc2 hf2 k2 p2 q2
  refine Calls.mono (isBelow_any b A n c N k _ L2.out (by omega)) ?_
  rw [HS.out]
  rintro e w3 ⟨rfl, hb3⟩
  have HR3 := Lib.hid (HR2.out.keep hb3)
  have BY3 := Lib.hid (BY2.out.below hb3)
  have hg3 : w1.heap.size < w3.heap.size := by have := hb3.size; simp at this; omega
  have HB3 := Lib.hid (below_trans HB2.out hb3)
  clear hb3 HR2 BY2 HB2 L2 hg2
  go_wp2_with (with_reducible refine wpList_copy_rd rfl (.tmp 22) (.tmp 23) 40 40 rfl 5 Tryz.underlying40 u8_size .u8 _ 1 m m S m sc rfl rfl 5 (m + 1) _ HR3.out (byteOf p f) m (Nat.min_self m).symm BY3.out.rd (by omega) ?_; intro w5 hrow5 hwr5 hs5)
  go_ret
  refine ⟨_, p, rfl, ⟨isIB_row HM.out hrow5 ?_ ?_ TR.out HF.out (by rw [HNA.out]; exact NU.out) hp, _, row_own hrow5 (by omega) (by simp only [maxLen]; omega) (by have := HM.out; omega)⟩, hwr5.below HB3.out HB3.out.size (by have := HB3.out.size; omega)⟩
  · rw [HSV.out]; simp [splF, upd]
  · intro j hj
    simp only [splF]
    rw [if_pos (by omega), show 1 + j - 1 = j from by omega]

set_option maxRecDepth 100000 in
set_option maxHeartbeats 4000000 in
theorem wbytes_t (b : Bool) (A : Option Addr) (n c N k : Nat) (w : World) (h : Lim k w (.slice A n c) N) (hk : k ≤ 4096) (hs : decide (sg b N < 0) = true) :
    Calls Tryz.prog 84 #[.agg #[.bool b, .slice A n c]] w fun e w' => ∃ v p, e = .returned v ∧ IBO w' v (sg b N) p w.heap.size ∧ Below w.heap.size w w' := by
  have H0 := Lib.hid h
  have HS := Lib.hid hs
  have HSV : Hid ((if sg b N < 0 then 1 else 0) = 1) := by
    show _ = _
    rw [if_pos (of_decide_eq_true hs)]
  have HNA : Hid ((sg b N).natAbs = N) := sg_abs b N
  clear h hs
  go_enter Tryz.func84, Tryz.ntmps84
  go_wp2_with fail
  refine Calls.mono (lim_wbytes (k := k) (N := N) (by repeat (first | (with_reducible first | assumption | (refine Hid.out ?_; assumption) | apply Blk.drew_ | apply LimI.drew_ | apply IsInt.drew_ | apply Lim.drew_ | apply IsNat.drew_) | ((with_reducible refine Blk.new _ _ ?_ _ _) <;> (first | rfl | (simp; done))) | (with_reducible first | refine LimI.alloc_ ?_ _ | refine IsInt.alloc_ ?_ _ | refine Lim.alloc_ ?_ _ | refine IsNat.alloc_ ?_ _ | refine Blk.alloc_ ?_ _ | apply Blk.own2 | refine Blk.other2 ?_ (by omega) | apply LimI.other2 | apply IsInt.other2 | apply IsNat.other2 | apply Lim.other2 | (apply Blk.below; rotate_left; assumption) | (apply LimI.below; rotate_left; assumption) | (apply IsInt.below; rotate_left; assumption) | (apply Lim.below; rotate_left; assumption) | (apply IsNat.below; rotate_left; assumption)))) hk) ?_
  rintro e w1 ⟨v1, p, rfl, h1, hb1⟩
  obtain ⟨f, hby, ht, hf, hnum, hp⟩ := h1
  obtain ⟨S, sc, rfl, hby⟩ := hby.form
  have BY := Lib.hid hby
  have TR := Lib.hid ht
  have HF := Lib.hid hf
  have NU := Lib.hid hnum
  obtain ⟨m, hm⟩ : ∃ m, m = 2 + 4 * p := ⟨_, rfl⟩
  rw [← hm] at BY
  have HM := Lib.hid hm
  have hm0 : ((m : Int) == 0) = false := by rw [beq_eq_false_iff_ne]; omega
  have hmw : IntKind.i64.wrap (1 + (m : Int)) = 1 + (m : Int) := IntWalk.i64_in _ (by omega)
  have hm1 : m ≤ 20000 := by omega
  have hm2 : 2 ≤ m := by omega
  have k1 := Blk.below (g := w.heap.size) (t := 24) (cs := #[.bool b, .slice A n c]) (by repeat (first | (with_reducible first | assumption | (refine Hid.out ?_; assumption) | apply Blk.drew_) | ((with_reducible refine Blk.new _ _ ?_ _ _) <;> (first | rfl | (simp; done))) | (with_reducible first | refine Blk.alloc_ ?_ _ | apply Blk.own2 | refine Blk.other2 ?_ (by omega) | (apply Blk.below; rotate_left; assumption)))) hb1
  have p1 := k1.cell0
  have q1 := k1.cell1
  have K1 := Lib.hid k1
  have d1 := k1.lt
  have L1 := Lib.hid (show Lim k w1 (.slice A n c) N from (by repeat (first | (with_reducible first | assumption | (refine Hid.out ?_; assumption) | apply Blk.drew_ | apply LimI.drew_ | apply IsInt.drew_ | apply Lim.drew_ | apply IsNat.drew_) | ((with_reducible refine Blk.new _ _ ?_ _ _) <;> (first | rfl | (simp; done))) | (with_reducible first | refine LimI.alloc_ ?_ _ | refine IsInt.alloc_ ?_ _ | refine Lim.alloc_ ?_ _ | refine IsNat.alloc_ ?_ _ | refine Blk.alloc_ ?_ _ | apply Blk.own2 | refine Blk.other2 ?_ (by omega) | apply LimI.other2 | apply IsInt.other2 | apply IsNat.other2 | apply Lim.other2 | (apply Blk.below; rotate_left; assumption) | (apply LimI.below; rotate_left; assumption) | (apply IsInt.below; rotate_left; assumption) | (apply Lim.below; rotate_left; assumption) | (apply IsNat.below; rotate_left; assumption)))))
  have HB1 := Lib.hid (show Below w.heap.size w w1 from (by repeat first | exact Below.refl _ _ | (with_reducible refine Below.trans ?_ (Below.mono (by with_reducible assumption) ?_)) | (with_reducible refine Below.alloc_ ?_ ?_ _) | (with_reducible refine Below.drew ?_) | (with_reducible refine Below.set2 ?_ ?_) | exact Nat.le_refl _ | omega | focus (simp <;> omega)))
  rw [← hm]
  clear k1 hb1 hby ht hf hnum hm
  go_wp2_with (at_make; refine wpList_make_row rfl _ _ 40 rfl .u8 5 Tryz.underlying40 1 u8_info (by omega) .i64 .i64 _ _ (m + 1) rfl rfl (by omega) (by omega) (by omega) ?_; intro w2 hrow2 hb2 hs2; have hc2 := hrow2.cell (j := 0) (by omega); have hf2 := hrow2.frozen 0; have k2 := Blk.below (g := w.heap.size) (t := 24) (cs := #[.bool b, .slice A n c]) (by repeat (first | (with_reducible first | assumption | (refine Hid.out ?_; assumption) | apply Blk.drew_) | ((with_reducible refine Blk.new _ _ ?_ _ _) <;> (first | rfl | (simp; done))) | (with_reducible first | refine Blk.alloc_ ?_ _ | apply Blk.own2 | refine Blk.other2 ?_ (by omega) | (apply Blk.below; rotate_left; assumption)))) hb2; have p2 := k2.cell0; have q2 := k2.cell1)
  have HR2 := Lib.hid (hrow2.set_ 0 0)
  have HB2 := Lib.hid (show Below w.heap.size w (w2.setCell ⟨w1.heap.size, 0, none⟩ (.int .u8 (0 : Nat))) from (HB1.out.trans (hb2.mono (by omega))).setCell (by simp; omega) _)
  have L2 := Lib.hid (show Lim k (w2.setCell ⟨w1.heap.size, 0, none⟩ (.int .u8 (0 : Nat))) (.slice A n c) N from by
    have := L1.out.below hb2
    obtain ⟨A', n', c', f', e1, e2, e3, e4⟩ := this
    exact ⟨A', n', c', f', e1, e2, e3.apart hc2 (fun z e => by cases e) _, e4⟩)
  have HOF := Lib.hid (Byt.off BY.out (show 0 < m by omega) (Nat.le_refl _))
  have BY2 := Lib.hid (Byt.wr (BY.out.below hb2) HOF.out (Wr.set_ w2 w1.heap.size 0 (.int .u8 (0 : Nat))))
  have hg2 : w1.heap.size < w2.heap.size := hrow2.lt
  have hsl := fun wq => sl_one w1.heap.size m (by omega) wq
  clear hrow2 hb2 hs2 L1 HB1 BY hc2 hf2 k2 p2 q2
  refine Calls.mono (isBelow_any b A n c N k _ L2.out (by omega)) ?_
  rw [HS.out]
  rintro e w3 ⟨rfl, hb3⟩
  have HR3 := Lib.hid (HR2.out.keep hb3)
  have BY3 := Lib.hid (BY2.out.below hb3)
  have hg3 : w1.heap.size < w3.heap.size := by have := hb3.size; simp at this; omega
  have HB3 := Lib.hid (below_trans HB2.out hb3)
  clear hb3 HR2 BY2 HB2 L2 hg2
  have hc3 : w3.cell? ⟨w1.heap.size, 0, none⟩ = some (.int .u8 0) := by
    have := HR3.out.cell (j := 0) (by omega)
    rw [upd_same] at this
    exact this
  have hf3 := HR3.out.frozen 0
  have HR4 := Lib.hid (show Row .u8 5 (w3.setCell ⟨w1.heap.size, 0, none⟩ (.int .u8 1)) w1.heap.size (m + 1) _ from HR3.out.set_ 0 1)
  have BY4 := Lib.hid (Byt.wr BY3.out HOF.out (Wr.set_ w3 w1.heap.size 0 (.int .u8 1)))
  have HB4 := Lib.hid (show Below w.heap.size w (w3.setCell ⟨w1.heap.size, 0, none⟩ (.int .u8 1)) from HB3.out.setCell (by simp; have := d1; omega) _)
  go_wp2_with (with_reducible refine wpList_copy_rd rfl (.tmp 22) (.tmp 23) 40 40 rfl 5 Tryz.underlying40 u8_size .u8 _ 1 m m S m sc rfl rfl 5 (m + 1) _ HR4.out (byteOf p f) m (Nat.min_self m).symm BY4.out.rd (by omega) ?_; intro w5 hrow5 hwr5 hs5)
  go_ret
  refine ⟨_, p, rfl, ⟨isIB_row HM.out hrow5 ?_ ?_ TR.out HF.out (by rw [HNA.out]; exact NU.out) hp, _, row_own hrow5 (by omega) (by simp only [maxLen]; omega) (by have := HM.out; omega)⟩, hwr5.below HB4.out HB4.out.size (by have := HB4.out.size; omega)⟩
  · rw [HSV.out]; simp [splF, upd]
  · intro j hj
    simp only [splF]
    rw [if_pos (by omega), show 1 + j - 1 = j from by omega]

theorem li_bytesO {k : Nat} {w : World} {v : Value} {X : Int} (h : LimI k w v X) (hk : k ≤ 4096) : Calls Tryz.prog 84 #[v] w fun e w' => ∃ v p, e = .returned v ∧ IBO w' v X p w.heap.size ∧ Below w.heap.size w w' := by
  obtain ⟨b, m, N, rfl, ⟨A, n, c, f, rfl, hr⟩, rfl⟩ := h
  have L : Lim k w (.slice A n c) N := ⟨A, n, c, f, rfl, hr⟩
  cases hs : decide (sg b N < 0)
  · exact wbytes_f b A n c N k w L hk hs
  · exact wbytes_t b A n c N k w L hk hs
end Go.Proofs.YtglcififcldchaaGreatDoor
