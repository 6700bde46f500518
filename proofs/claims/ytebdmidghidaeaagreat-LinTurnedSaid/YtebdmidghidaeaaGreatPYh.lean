/- Contracts of lin and of the document: Rect; lin: divided. -/
import Derived.Test.YtebdmidghidaeaaGreatPYf
namespace Go.Proofs.YtebdmidghidaeaaGreat
open Go.RowKit
attribute [local go_sem ↓] Go.wp_at_zero Go.wp_at_succ
set_option linter.unusedVariables false

set_option maxRecDepth 100000 in
set_option maxHeartbeats 2000000 in
theorem lrect {p : Bool} {k m : Nat} {w : World} {v : Value} {Ln : Nat → Nat} {F : Nat → Nat → Rat} {N : Int} (h : TabQ p k w v m Ln F) :
    Calls Tryz.prog 18 #[v, .int .i64 N] w fun e w' => (∃ b, e = .returned (.bool b) ∧ (b = true ↔ ∀ i, i < m → (Ln i : Int) = N)) ∧ w' = w := by
  obtain ⟨A, c, rfl, hc, hm⟩ := h.len
  have H := Lib.hid h
  clear h
  go_enter Tryz.func18, Tryz.ntmps18
  go_wp2
  go_loopw [9] (fun v9 wr => ∃ (i : Nat), v9 = .int .i64 (i : Nat) ∧ i ≤ m ∧ wr = w ∧ ∀ j, j < i → (Ln j : Int) = N) (fun v9 _ => m - (intOf v9).toNat)
  case atStart => exact ⟨0, rfl, Nat.zero_le _, rfl, fun j hj => absurd hj (by omega)⟩
  case round =>
    obtain ⟨i, rfl, hi, rfl, hinv⟩ := hrel
    have HI := Lib.hid hinv
    clear hinv
    by_cases hlt : i < m
    · have hi0 : (0 : Int) ≤ (i : Int) := by omega
      have hik : (i : Int) < (m : Int) := by omega
      obtain ⟨ad, c1, A', c', e1, _, hb, hcell, hl1, hl2, hr⟩ := H.out.at_ hlt
      simp only [Value.slice.injEq] at e1
      obtain ⟨rfl, _, rfl⟩ := e1
      generalize hLi : Ln i = li at *
      have HL := Lib.hid hLi
      clear hr hLi
      by_cases hN : (li : Int) = N
      · go_wp2
        go_roundw
        case rel => exact ⟨i + 1, by go_num, by omega, by first | rfl | trivial, fun j hj => by
          by_cases hji : j = i
          · subst hji; rw [HL.out]; exact hN
          · exact HI.out j (by omega)⟩
        case measure => simp [intOf]; omega
      · go_wp2
        go_ret
        exact ⟨⟨_, rfl, fun h => (by cases h), fun h => absurd (HL.out ▸ h i hlt) hN⟩, by first | rfl | trivial⟩
    · obtain rfl : i = m := by omega
      go_wp2
      go_ret
      exact ⟨⟨_, rfl, fun _ => HI.out, fun _ => rfl⟩, by first | rfl | trivial⟩

set_option maxRecDepth 100000 in
set_option maxHeartbeats 2000000 in
theorem rrect {p : Bool} {k m : Nat} {w : World} {v : Value} {Ln : Nat → Nat} {F : Nat → Nat → Rat} {N : Int} (h : TabQ p k w v m Ln F) :
    Calls Tryz.prog 29 #[v, .int .i64 N] w fun e w' => (∃ b, e = .returned (.bool b) ∧ (b = true ↔ ∀ i, i < m → (Ln i : Int) = N)) ∧ w' = w := by
  obtain ⟨A, c, rfl, hc, hm⟩ := h.len
  have H := Lib.hid h
  clear h
  go_enter Tryz.func29, Tryz.ntmps29
  go_wp2
  go_loopw [5] (fun v9 wr => ∃ (i : Nat), v9 = .int .i64 (i : Nat) ∧ i ≤ m ∧ wr = w ∧ ∀ j, j < i → (Ln j : Int) = N) (fun v9 _ => m - (intOf v9).toNat)
  case atStart => exact ⟨0, rfl, Nat.zero_le _, rfl, fun j hj => absurd hj (by omega)⟩
  case round =>
    obtain ⟨i, rfl, hi, rfl, hinv⟩ := hrel
    have HI := Lib.hid hinv
    clear hinv
    by_cases hlt : i < m
    · have hi0 : (0 : Int) ≤ (i : Int) := by omega
      have hik : (i : Int) < (m : Int) := by omega
      obtain ⟨ad, c1, A', c', e1, _, hb, hcell, hl1, hl2, hr⟩ := H.out.at_ hlt
      simp only [Value.slice.injEq] at e1
      obtain ⟨rfl, _, rfl⟩ := e1
      generalize hLi : Ln i = li at *
      have HL := Lib.hid hLi
      clear hr hLi
      by_cases hN : (li : Int) = N
      · go_wp2
        go_roundw
        case rel => exact ⟨i + 1, by go_num, by omega, by first | rfl | trivial, fun j hj => by
          by_cases hji : j = i
          · subst hji; rw [HL.out]; exact hN
          · exact HI.out j (by omega)⟩
        case measure => simp [intOf]; omega
      · go_wp2
        go_ret
        exact ⟨⟨_, rfl, fun h => (by cases h), fun h => absurd (HL.out ▸ h i hlt) hN⟩, by first | rfl | trivial⟩
    · obtain rfl : i = m := by omega
      go_wp2
      go_ret
      exact ⟨⟨_, rfl, fun _ => HI.out, fun _ => rfl⟩, by first | rfl | trivial⟩

set_option maxRecDepth 100000 in
set_option maxHeartbeats 4000000 in
theorem ldivided {p : Bool} {k j K n : Nat} {w : World} {va vz : Value} {f : Nat → Rat} {z : Rat} (ha : RowQ p k w va n f) (hz : LimQ j w vz z) (hk : k ≤ 10000) (hj : j ≤ 10000) (h1 : 1 ≤ k) (h3 : 1 ≤ j) (hK : ∀ i, i < n → BQ K (f i / z)) :
    Calls Tryz.prog 73 #[va, vz] w fun e w' => ∃ v, e = .returned v ∧ RowT true K w' v n (fun i => f i / z) ∧ Below w.heap.size w w' := by
  obtain ⟨A, ca, rfl, hca, hn⟩ := ha.len
  obtain ⟨⟨e, E, s, t, e', E', s', t'⟩, rfl⟩ := hz.parts
  have HA := Lib.hid ha
  have HZ := Lib.hid hz
  have HK := Lib.hid hK
  have HN := Lib.hid hn
  clear ha hz hK hca hn
  go_enter Tryz.func73, Tryz.ntmps73
  go_wp2_with (at_make; refine wpList_make_rats rfl rfl _ _ rfl w.heap.size _ _ _ _ n rfl rfl rfl rfl HN.out (by simp) ?_; intro w1 hown hbw hsw)
  have HB1 := Lib.hid (bun hbw)
  have KZ1 := Lib.hid (show Blk w1 w.heap.size 27 #[.bool e, .slice E s t, .bool e', .slice E' s' t'] from (Blk.new _ _ rfl _ _).below hbw)
  have hs1 : w1.heap.size = w.heap.size + 2 := by rw [hsw]; simp
  have HO1 := Lib.hid hown
  have hsz : (w.alloc (.cells #[.bool e, .slice E s t, .bool e', .slice E' s' t'] 27)).heap.size = w.heap.size + 1 := by simp
  rw [hsz] at HO1
  clear hown hbw hsw
  go_wp2
  go_loopw [13] (fun v13 wr => ∃ (i : Nat) (X : Nat → RatD), v13 = .int .i64 (i : Nat) ∧ i ≤ n ∧ OwnR wr w.heap.size (.slice (some ⟨w.heap.size + 1, 0, none⟩) n n) n X ∧ (∀ j, j < i → EQ true K wr (X j).val (f j / z)) ∧ Below w.heap.size w wr ∧ Blk wr w.heap.size 27 #[.bool e, .slice E s t, .bool e', .slice E' s' t']) (fun v13 _ => n - (intOf v13).toNat)
  case atStart => exact ⟨0, _, rfl, Nat.zero_le _, HO1.out, fun j hj => absurd hj (by omega), HB1.out, KZ1.out⟩
  case round =>
    obtain ⟨i, X, rfl, hi, g1, g2, g3, g4⟩ := hrel
    have HO := Lib.hid g1
    have HX := Lib.hid g2
    have HB := Lib.hid g3
    have KZ := Lib.hid g4
    clear g1 g2 g3 g4 HO1 HB1 KZ1
    by_cases hlt : i < n
    · have hi0 : (0 : Int) ≤ (i : Int) := by omega
      have hik : (i : Int) < (n : Int) := by omega
      obtain ⟨ad, c1, ⟨b, A1, n1, c2, b', A1', n1', c1'⟩, e1, _, _, ⟨a0, a1, a2, a3, a4⟩, hE⟩ := (HA.out.below HB.out).at_ hlt
      simp only [Value.slice.injEq] at e1
      obtain ⟨rfl, _, rfl⟩ := e1
      have hgr : w.heap.size + 1 < wr.heap.size := (OwnN.blk HO.out).2.2.elim fun cur h => Blk.lt h
      have x_10 := Lib.hid hE.2
      have z_10 := Lib.hid (HZ.out.below HB.out)
      have o_10 := Lib.hid HO.out
      have HB_10 := Lib.hid HB.out
      have Kz_10 := Lib.hid KZ.out
      have hX_10 := Lib.hid HX.out
      clear hE HO HX HB KZ
      obtain ⟨p10, p11, p12, p13, l1⟩ := Kz_10.out.use4
      go_wp2_with fail
      refine Calls.mono (q_div (x_10.out.alloc_ _) (z_10.out.alloc_ _) (by omega) (by omega) h1 h3) ?_
      rintro e w11 ⟨v, rfl, h, hb⟩
      obtain ⟨b11, A11, n11, c11, d11, B11, m11, k11, rfl, -, -, -, -, -⟩ := h.form
      have hX_11 := Lib.hid (fun j (hj : j < i) => (hX_10.out j hj).below (bun hb))
      have hB := bun (hb)
      have o_11 := Lib.hid (o_10.out.below hB)
      have Kz_11 := Lib.hid (Kz_10.out.below hB)
      have Ke_11 := Lib.hid (show Blk w11 (wr.heap.size) 27 #[.bool b, .slice A1 n1 c2, .bool b', .slice A1' n1' c1'] from (Blk.new _ _ (by simp) _ _).below hb)
      have q_11 := Lib.hid (h)
      have HB_11 := Lib.hid (below_trans HB_10.out hB)
      have hs_11 : w.heap.size ≤ w11.heap.size := HB_11.out.size
      have hz_11 : wr.heap.size + 1 ≤ w11.heap.size := (by have h := hb.size; (try simp at h); omega)
      clear hB hb x_10 z_10 o_10 Kz_10 HB_10 p10 p11 p12 p13 l1
      obtain ⟨p20, p21, p22, p23, l2⟩ := Ke_11.out.use4
      obtain ⟨p30, p31, p32, p33, l3⟩ := Kz_11.out.use4
      obtain ⟨s0, s1, s2, s3, s4, s5, s6, s7, s8⟩ := o_11.out.spot hlt
      go_wp2
      obtain ⟨W, hW⟩ : ∃ W, W = ((((w11.setCell ⟨w.heap.size + 1, i * 4, none⟩ (.bool b11)).setCell ⟨w.heap.size + 1, i * 4 + 1, none⟩ (.slice A11 n11 c11)).setCell ⟨w.heap.size + 1, i * 4 + 2, none⟩ (.bool d11)).setCell ⟨w.heap.size + 1, i * 4 + 3, none⟩ (.slice B11 m11 k11)) := ⟨_, rfl⟩
      rw [← hW]
      obtain ⟨g1, g2, g3⟩ := OwnR.set4 o_11.out hlt ⟨b11, A11, n11, c11, d11, B11, m11, k11⟩ hW
      have KF : Blk W w.heap.size 27 #[.bool e, .slice E s t, .bool e', .slice E' s' t'] := by
        rw [hW]
        exact (((Kz_11.out.other (by omega) _ _).other (by omega) _ _).other (by omega) _ _).other (by omega) _ _
      have HINV : Hid (OwnR W w.heap.size (.slice (some ⟨w.heap.size + 1, 0, none⟩) n n) n (updR X i ⟨b11, A11, n11, c11, d11, B11, m11, k11⟩) ∧ (∀ j, j < i + 1 → EQ true K W ((updR X i ⟨b11, A11, n11, c11, d11, B11, m11, k11⟩) j).val (f j / z)) ∧ Below w.heap.size w W ∧ Blk W w.heap.size 27 #[.bool e, .slice E s t, .bool e', .slice E' s' t']) := ⟨g1, fun j hj => by
        by_cases hji : j = i
        · subst hji; rw [updR_at]; exact (EQ.of q_11.out (HK.out j hlt)).kp g2.keep
        · rw [updR_ne _ _ hji]; exact (hX_11.out j (by omega)).kp g2.keep, HB_11.out.trans g2.below, KF⟩
      clear hW g1 g2 g3 KF o_11 hX_11 q_11 HB_11 Kz_11 s0 s1 s2 s3 s4 s5 s6 s7 s8
      go_roundw
      case rel => exact ⟨i + 1, _, by go_num, by omega, HINV.out⟩
      case measure => simp [intOf]; omega
    · obtain rfl : i = n := by omega
      go_wp2
      go_ret
      exact ⟨_, rfl, OwnR.rowT HO.out HN.out HX.out, HB.out⟩
end Go.Proofs.YtebdmidghidaeaaGreat

/- Contracts of lin: pivoted. -/
namespace Go.Proofs.YtebdmidghidaeaaGreat
open Go.RowKit
attribute [local go_sem ↓] Go.wp_at_zero Go.wp_at_succ
set_option linter.unusedVariables false

theorem BQ.inv {k : Nat} {q : Rat} (h : BQ k q) (hk : 1 ≤ k) : BQ k q⁻¹ := by
  by_cases hq : q = 0
  · rw [hq, Rat.inv_zero]; exact bq_zero hk
  · have h1 : q.num ≠ 0 := fun e => hq (Rat.num_eq_zero.1 e)
    refine ⟨?_, ?_⟩
    · rw [Rat.num_inv, Int.natAbs_mul]
      have : q.num.sign.natAbs = 1 := by rw [Int.natAbs_sign_of_ne_zero h1]
      rw [this, Nat.one_mul]
      exact h.2
    · rw [Rat.den_inv, if_neg h1]
      exact h.1
theorem BQ.div {k l : Nat} {q p : Rat} (h : BQ k q) (h' : BQ l p) (hl : 1 ≤ l) {m : Nat} (hm : k + l ≤ m) : BQ m (q / p) := by
  rw [Rat.div_def]
  exact h.mul (h'.inv hl) hm
theorem BQ.zsub {k : Nat} {q : Rat} (h : BQ k q) : BQ k (0 - q) := by
  rw [Rat.sub_eq_add_neg, Rat.zero_add]
  exact h.neg
/-- A table, pivoted. -/
def pivF (F : Nat → Nat → Rat) (r c i : Nat) : Nat → Rat := if i = r then fun j => F r j / F r c else fun j => F i j + F r j / F r c * (0 - F i c)
theorem pivF_at (F : Nat → Nat → Rat) (r c : Nat) : pivF F r c r = fun j => F r j / F r c := by unfold pivF; rw [if_pos rfl]
theorem pivF_ne (F : Nat → Nat → Rat) {r c i : Nat} (h : i ≠ r) : pivF F r c i = fun j => F i j + F r j / F r c * (0 - F i c) := by unfold pivF; rw [if_neg h]
/-- What pivoted's loop carries. -/
def PvI (w wr : World) (g0 m n k K : Nat) (F : Nat → Nat → Rat) (r c : Nat) (u : Value) (i : Nat) (rr : Nat → Value) : Prop :=
  OwnT wr w.heap.size (.slice (some ⟨g0, 0, none⟩) m m) m rr ∧ (∀ j, j < i → RowT true K wr (rr j) n (pivF F r c j)) ∧ Below w.heap.size w wr ∧ RowT true (k + k) wr u n (fun j => F r j / F r c)

set_option maxRecDepth 100000 in
set_option maxHeartbeats 4000000 in
theorem lpivoted {p : Bool} {k K m n r c : Nat} {w : World} {vt : Value} {F : Nat → Nat → Rat} (hT : TabQ p k w vt m (fun _ => n) F) (hr : r < m) (hc : c < n) (hF : F r c ≠ 0) (hk : k ≤ 2000) (h1 : 1 ≤ k) (hK : k + (k + k + k) + 1 ≤ K) :
    Calls Tryz.prog 42 #[vt, .int .i64 (r : Nat), .int .i64 (c : Nat)] w fun e w' => ∃ v rr, e = .returned v ∧ OwnT w' w.heap.size v m rr ∧ (∀ i, i < m → RowT true K w' (rr i) n (pivF F r c i)) ∧ Below w.heap.size w w' := by
  obtain ⟨td, ct, R, cR, rfl, hm, htb, hcell, hn1, hn, hR⟩ := hT.at_ hr
  obtain ⟨rd, cr, ⟨b8, A8, n8, c8, d8, B8, m8, k8⟩, e1, _, _, ⟨x0, x1, x2, x3, x4⟩, hE⟩ := hR.at_ hc
  simp only [Value.slice.injEq] at e1
  obtain ⟨rfl, _, rfl⟩ := e1
  have BU : Hid (∀ i, i < n → BQ (k + k) (F r i / F r c)) := fun i hi => BQ.div (hR.bq h1 hi) (hE.2.bq h1) h1 (Nat.le_refl _)
  have HT := Lib.hid hT
  have HR := Lib.hid hR
  have HE := Lib.hid hE.2
  have HM := Lib.hid hm
  have hr0 : (0 : Int) ≤ (r : Int) := by omega
  have hrm : (r : Int) < (m : Int) := by omega
  have hc0 : (0 : Int) ≤ (c : Int) := by omega
  have hcn : (c : Int) < (n : Int) := by omega
  have HF := Lib.hid hF
  clear hT hR hE hm hF
  go_enter Tryz.func42, Tryz.ntmps42
  go_wp2
  have tok0 : True := trivial
  go_region_held3 (fun w' => w'.cell? (td.add r) = some (.slice (some rd) n cR) ∧ w'.cell? (rd.add (c * 4)) = some (.bool b8) ∧ w'.cell? ⟨(rd.add (c * 4)).block, (rd.add (c * 4)).off + 1, none⟩ = some (.slice A8 n8 c8) ∧ w'.cell? ⟨(rd.add (c * 4)).block, (rd.add (c * 4)).off + 2, none⟩ = some (.bool d8) ∧ w'.cell? ⟨(rd.add (c * 4)).block, (rd.add (c * 4)).off + 3, none⟩ = some (.slice B8 m8 k8)) (first | (refine ⟨?_, ?_, ?_, ?_, ?_⟩ <;> (first | with_reducible assumption | ((with_reducible refine Eq.trans (cell_drew _ _) ?_); with_reducible assumption) | go_keep)) | go_keep)
    (first
      | (go_at_call 73; have _t := tok0; clear _t tok0; ((with_reducible refine Calls.mono (ldivided (k := k) (j := k) (K := k + k) HR.out.drew_ HE.out.drew_ (by omega) (by omega) h1 h1 BU.out) ?_)); rintro e w1 ⟨u, rfl, h, hb⟩; have hBw := (show Below w.heap.size w w1 from bundrew hb);
         have hcelly := (hBw.cell (p := td.add r) (by rw [add_block]; exact htb)).trans hcell; have y0 := (hBw.cell (p := (rd.add (c * 4))) x0).trans x1; have y1 := (hBw.cell (p := ⟨(rd.add (c * 4)).block, (rd.add (c * 4)).off + 1, none⟩) x0).trans x2; have y2 := (hBw.cell (p := ⟨(rd.add (c * 4)).block, (rd.add (c * 4)).off + 2, none⟩) x0).trans x3; have y3 := (hBw.cell (p := ⟨(rd.add (c * 4)).block, (rd.add (c * 4)).off + 3, none⟩) x0).trans x4;
         have HU := Lib.hid h; have HB1 := Lib.hid hBw; have HT1 := Lib.hid (HT.out.below hBw); obtain ⟨UA, UC, rfl, hu1, hu2⟩ := h.rowQ.len; clear hBw h hb hcell x0 x1 x2 x3 x4))
  go_wp2_with (at_make; refine wpList_make_rows rfl rfl _ _ rfl w.heap.size _ _ _ _ m rfl rfl rfl rfl HM.out HB1.out.size ?_; intro w2 hown hbw hsw)
  have HI0 : Hid (PvI w w2 w1.heap.size m n k K F r c (.slice UA n UC) 0 (fun _ => .slice none 0 0)) := ⟨hown, fun j hj => absurd hj (by omega), below_trans HB1.out hbw, HU.out.below hbw⟩
  have hg0 : w.heap.size ≤ w1.heap.size := HB1.out.size
  clear hown hbw hsw HU HT1 HB1
  go_wp2
  go_loopw [28] (fun v28 wr => ∃ (i : Nat) (rr : Nat → Value), v28 = .int .i64 (i : Nat) ∧ i ≤ m ∧ PvI w wr w1.heap.size m n k K F r c (.slice UA n UC) i rr) (fun v28 _ => m - (intOf v28).toNat)
  case atStart => exact ⟨0, _, rfl, Nat.zero_le _, HI0.out⟩
  case round =>
    obtain ⟨i, rr, rfl, hi, hinv⟩ := hrel
    have HI := Lib.hid hinv
    clear hinv HI0
    by_cases hlt : i < m
    · have hi0 : (0 : Int) ≤ (i : Int) := by omega
      have hik : (i : Int) < (m : Int) := by omega
      obtain ⟨td', ct', Q, cQ, e1, _, hqb, hqcell, hqn, _, hQ⟩ := HT.out.at_ hlt
      simp only [Value.slice.injEq, Option.some.injEq] at e1
      obtain ⟨rfl, _, rfl⟩ := e1
      obtain ⟨qd, cq, ⟨b9, A9, n9, c9, d9, B9, m9, k9⟩, e1, _, _, hat, hE⟩ := hQ.at_ hc
      simp only [Value.slice.injEq] at e1
      obtain ⟨rfl, _, rfl⟩ := e1
      have hne : w1.heap.size ≠ (qd.add (c * 4)).block := by have := hat.1; omega
      obtain ⟨x0, x1, x2, x3, x4⟩ := hat.below HI.out.2.2.1
      have hqc := (HI.out.2.2.1.cell (p := td.add i) (by rw [add_block]; exact hqb)).trans hqcell
      have HE9 := Lib.hid (hE.2.below HI.out.2.2.1)
      have HQ := Lib.hid (hQ.below HI.out.2.2.1)
      have HO := Lib.hid HI.out.1
      have HX := Lib.hid HI.out.2.1
      have HB := Lib.hid HI.out.2.2.1
      have HU := Lib.hid HI.out.2.2.2
      have hg1 : w1.heap.size < wr.heap.size := HO.out.lt
      clear hE hQ hat hqcell HI
      by_cases hir : i = r
      · subst hir
        have s0 := HO.out.at_ hlt
        have s1 := OwnN.frozenAt HO.out i
        go_wp2
        obtain ⟨W, hW⟩ : ∃ W, W = wr.setCell ⟨w1.heap.size, i, none⟩ (.slice UA n UC) := ⟨_, rfl⟩
        rw [← hW]
        obtain ⟨g1, g2, g3⟩ := OwnT.set1 HO.out hlt nu hW
        have HINV : Hid (PvI w W w1.heap.size m n k K F i c (.slice UA n UC) (i + 1) (updR rr i (.slice UA n UC))) := ⟨g1, fun j hj => by
          by_cases hji : j = i
          · rw [hji, updR_at, pivF_at]; exact ((HU.out.more (by omega)).fz g2)
          · rw [updR_ne _ _ hji]; exact (HX.out j (by omega)).fz g2, HB.out.trans g2.below, HU.out.fz g2⟩
        clear hW g1 g2 g3 HO HX HB HU s0 s1
        go_roundw
        case rel => exact ⟨i + 1, _, by go_num, by omega, HINV.out⟩
        case measure => simp [intOf]; omega
      · have hir' : ¬ (i : Int) = (r : Int) := by omega
        go_wp2
        have tok0 : True := trivial
        have tok1 : True := trivial
        have tok2 : True := trivial
        go_region_held3 (fun w' => w'.cell? (qd.add (c * 4)) = some (.bool b9) ∧ w'.cell? ⟨(qd.add (c * 4)).block, (qd.add (c * 4)).off + 1, none⟩ = some (.slice A9 n9 c9) ∧ w'.cell? ⟨(qd.add (c * 4)).block, (qd.add (c * 4)).off + 2, none⟩ = some (.bool d9) ∧ w'.cell? ⟨(qd.add (c * 4)).block, (qd.add (c * 4)).off + 3, none⟩ = some (.slice B9 m9 k9)) (first | (refine ⟨?_, ?_, ?_, ?_⟩ <;> (first | with_reducible assumption | ((with_reducible refine Eq.trans (cell_drew _ _) ?_); with_reducible assumption) | ((repeat rw [World.cell?_setCell_far _ _ _ _ (by first | exact hne)]); with_reducible assumption) | go_keep)) | go_keep)
          (first
            | (go_at_call 33; have _t := tok0; clear _t tok0; ((with_reducible refine Calls.mono (lzero _) ?_)); rintro e w11 ⟨v, rfl, h, hb⟩; obtain ⟨b5, A5, n5, c5, d5, B5, m5, k5, rfl, -, -, -, -, -⟩ := h.form; have hBw := (show Below wr.heap.size wr w11 from by first | exact hb | exact bundrew hb); have z011 : (qd.add (c * 4)).block < w11.heap.size := Nat.lt_of_lt_of_le x0 hBw.size; have x111 := (hBw.cell (p := (qd.add (c * 4))) x0).trans x1; have x211 := (hBw.cell (p := ⟨(qd.add (c * 4)).block, (qd.add (c * 4)).off + 1, none⟩) x0).trans x2; have x311 := (hBw.cell (p := ⟨(qd.add (c * 4)).block, (qd.add (c * 4)).off + 2, none⟩) x0).trans x3; have x411 := (hBw.cell (p := ⟨(qd.add (c * 4)).block, (qd.add (c * 4)).off + 3, none⟩) x0).trans x4; have HQ11 := Lib.hid (HQ.out.below hBw); have HO11 := Lib.hid (HO.out.below hBw); have HU11 := Lib.hid (HU.out.below hBw); have HB11 := Lib.hid (below_trans HB.out hBw); have HX11 := Lib.hid (fun j (hj : j < i) => (HX.out j hj).below hBw); have HE11 := Lib.hid (HE9.out.below hBw); have HZ11 := Lib.hid (h.limQ (k := 1) (bq_zero (by omega))); clear hBw h hb HQ HO HU HB HX HE9 x0 x1 x2 x3 x4)
            | (go_at_call 74; have _t := tok1; clear _t tok1; ((with_reducible refine Calls.mono (q_sub (k := 1) (l := k) (by first | exact HZ11.out | exact (HZ11.out).drew_) (by first | exact HE11.out | exact (HE11.out).drew_) (by omega) (by omega) (by omega) h1) ?_)); rintro e w12 ⟨v, rfl, h, hb⟩; obtain ⟨b6, A6, n6, c6, d6, B6, m6, k6, rfl, -, -, -, -, -⟩ := h.form; have hBw := (show Below w11.heap.size w11 w12 from by first | exact hb | exact bundrew hb); have z012 : (qd.add (c * 4)).block < w12.heap.size := Nat.lt_of_lt_of_le z011 hBw.size; have x112 := (hBw.cell (p := (qd.add (c * 4))) z011).trans x111; have x212 := (hBw.cell (p := ⟨(qd.add (c * 4)).block, (qd.add (c * 4)).off + 1, none⟩) z011).trans x211; have x312 := (hBw.cell (p := ⟨(qd.add (c * 4)).block, (qd.add (c * 4)).off + 2, none⟩) z011).trans x311; have x412 := (hBw.cell (p := ⟨(qd.add (c * 4)).block, (qd.add (c * 4)).off + 3, none⟩) z011).trans x411; have HQ12 := Lib.hid (HQ11.out.below hBw); have HO12 := Lib.hid (HO11.out.below hBw); have HU12 := Lib.hid (HU11.out.below hBw); have HB12 := Lib.hid (below_trans HB11.out hBw); have HX12 := Lib.hid (fun j (hj : j < i) => (HX11.out j hj).below hBw); have HS12 := Lib.hid (h.limQ (k := k) ((HE11.out.bq h1).zsub)); clear hBw h hb HQ11 HO11 HU11 HB11 HX11 HE11 HZ11 x111 x211 x311 x411)
            | (go_at_call 14; have _t := tok2; clear _t tok2; ((with_reducible refine Calls.mono (laddTimes (k := k) (l := k + k) (j := k) (K := K) (by first | exact HQ12.out | exact (HQ12.out).drew_) (by first | exact HU12.out.rowQ | exact (HU12.out.rowQ).drew_) (by first | exact HS12.out | exact (HS12.out).drew_) (by omega) (by omega) (by omega) h1 (by omega) h1 hK) ?_)); rintro e w13 ⟨v, rfl, h, hb⟩; have hBw := (show Below w12.heap.size w12 w13 from by first | exact hb | exact bundrew hb); have z013 : (qd.add (c * 4)).block < w13.heap.size := Nat.lt_of_lt_of_le z012 hBw.size; have x113 := (hBw.cell (p := (qd.add (c * 4))) z012).trans x112; have x213 := (hBw.cell (p := ⟨(qd.add (c * 4)).block, (qd.add (c * 4)).off + 1, none⟩) z012).trans x212; have x313 := (hBw.cell (p := ⟨(qd.add (c * 4)).block, (qd.add (c * 4)).off + 2, none⟩) z012).trans x312; have x413 := (hBw.cell (p := ⟨(qd.add (c * 4)).block, (qd.add (c * 4)).off + 3, none⟩) z012).trans x412; have HQ13 := Lib.hid (HQ12.out.below hBw); have HO13 := Lib.hid (HO12.out.below hBw); have HU13 := Lib.hid (HU12.out.below hBw); have HB13 := Lib.hid (below_trans HB12.out hBw); have HX13 := Lib.hid (fun j (hj : j < i) => (HX12.out j hj).below hBw); have HV := Lib.hid h; obtain ⟨VA, VC, rfl, hv1, hv2⟩ := h.rowQ.len; have s0 := HO13.out.at_ hlt; have s1 := OwnN.frozenAt HO13.out i; clear hBw h hb HQ12 HO12 HU12 HB12 HX12 HS12 x112 x212 x312 x412))
        obtain ⟨W, hW⟩ : ∃ W, W = w13.setCell ⟨w1.heap.size, i, none⟩ (.slice VA n VC) := ⟨_, rfl⟩
        rw [← hW]
        obtain ⟨g1, g2, g3⟩ := OwnT.set1 HO13.out hlt nu hW
        have HINV : Hid (PvI w W w1.heap.size m n k K F r c (.slice UA n UC) (i + 1) (updR rr i (.slice VA n VC))) := ⟨g1, fun j hj => by
          by_cases hji : j = i
          · subst hji; rw [updR_at, pivF_ne F hir]; exact HV.out.fz g2
          · rw [updR_ne _ _ hji]; exact (HX13.out j (by omega)).fz g2, HB13.out.trans g2.below, HU13.out.fz g2⟩
        clear hW g1 g2 g3 HO13 HX13 HB13 HU13 HV
        go_wp2
        go_roundw
        case rel => exact ⟨i + 1, _, by go_num, by omega, HINV.out⟩
        case measure => simp [intOf]; omega
    · obtain rfl : i = m := by omega
      go_wp2
      go_ret
      exact ⟨_, _, rfl, HI.out.1, HI.out.2.1, HI.out.2.2.1⟩
end Go.Proofs.YtebdmidghidaeaaGreat
