/- Contracts: divLong. -/
import Derived.Test.YtonjecddhbckgaaDs
import Derived.Test.YtonjecddhbckgaaBn
import Derived.Test.YtonjecddhbckgaaDm
import Derived.Test.YtonjecddhbckgaaCl
namespace Go.Proofs.Ytonjecddhbckgaa
open Go.RowKit

/-- What divLong leaves. -/
def LongPost (w w' : World) (e : Ending) (X Y : Nat) : Prop :=
  ∃ vq vr, e = .returned (.tuple #[vq, vr]) ∧ IsNat w' vq (X / Y) ∧ IsNat w' vr (X % Y) ∧ Below w.heap.size w w'

/-- The loop's memory. -/
def LongMem (w wr : World) (g1 g2 g3 m n n' : Nat) (Fd F Q : Nat → Nat) : Prop :=
  Row .u32 41 wr g2 (n + 1) F ∧ Row .u32 41 wr g3 n' Q ∧ Rd .u32 wr (some ⟨g1, 0, none⟩) m Fd ∧ Below w.heap.size w wr ∧ w.heap.size ≤ g2 ∧ w.heap.size ≤ g3 ∧ g2 ≠ g3 ∧ g1 ≠ g2 ∧ g1 ≠ g3

theorem LongMem.step {w wr w2 : World} {g1 g2 g3 m n n' : Nat} {Fd F F' Q : Nat → Nat} (h : LongMem w wr g1 g2 g3 m n n' Fd F Q) (r : Row .u32 41 w2 g2 (n + 1) F') (hw : Wr g2 wr w2) :
    LongMem w w2 g1 g2 g3 m n n' Fd F' Q := by
  obtain ⟨h1, h2, h3, h4, h5, h6, h7, h8, h9⟩ := h
  exact ⟨r, h2.wr (Ne.symm h7) hw, h3.wr (fun ad e => by injection e with e; subst e; exact h8) hw, hw.below h4 h4.size h5, h5, h6, h7, h8, h9⟩
theorem LongMem.store {w wr : World} {g1 g2 g3 m n n' : Nat} {Fd F Q : Nat → Nat} (h : LongMem w wr g1 g2 g3 m n n' Fd F Q) (j v : Nat) :
    LongMem w (wr.setCell ⟨g3, j, none⟩ (.int .u32 (v : Nat))) g1 g2 g3 m n n' Fd F (upd Q j v) := by
  obtain ⟨h1, h2, h3, h4, h5, h6, h7, h8, h9⟩ := h
  have hw := Wr.set_ wr g3 j (.int .u32 (v : Nat))
  exact ⟨h1.wr h7 hw, h2.set_ _ _, h3.wr (fun ad e => by injection e with e; subst e; exact h9) hw, hw.below h4 h4.size h6, h5, h6, h7, h8, h9⟩

set_option maxHeartbeats 2000000 in
theorem divLong_any (A : Option Addr) (n c : Nat) (f : Nat → Nat) (B : Option Addr) (k d : Nat) (h : Nat → Nat) (w : World) (ha : Rd .u32 w A n f) (hn : n ≤ 8796093022207) (hf : ∀ j, j < n → f j < 4294967296)
    (hb : Rd .u32 w B (k + 1) h) (hk : 1 ≤ k) (hkn : k + 1 ≤ n) (hh : ∀ j, j < k + 1 → h j < 4294967296) (ht : h k ≠ 0) :
    Calls Try.prog 51 #[.slice A n c, .slice B (k + 1 : Nat) d] w fun e w' => LongPost w w' e (num 4294967296 f n) (num 4294967296 h (k + 1)) := by
  obtain ⟨bd, rfl, _⟩ := hb 0 (by omega)
  have hc0 := hb.at_ (j := k) (by omega)
  have HL := Lib.hid (fun w => lead_any (h k) w (hh k (by omega)) (by omega))
  have HA := Lib.hid ha
  have HB := Lib.hid hb
  have HF := Lib.hid hf
  have HH := Lib.hid hh
  clear ha hb hf hh
  go_enter Try.func51, Try.ntmps51
  go_wp2_with fail
  refine (HL.out _).mono ?_
  rintro e w' ⟨⟨s, rfl, hs, n1, n2⟩, rfl⟩
  have N1 := Lib.hid n1
  have N2 := Lib.hid n2
  clear n1 n2 hc0
  have U1 := Lib.hid (shiftUp_any (some bd) (k + 1) d s h w' HB.out hs (by omega) HH.out)
  go_wp2_with fail
  refine U1.out.mono ?_
  rintro e w1 ⟨Fd, rfl, hrd, hbd, hfd, hnd⟩
  have NT := Lib.hid (norm_top hs HH.out N1.out N2.out hfd hnd)
  have HFD := Lib.hid (fun j (hj : j < k + 1) => hfd j (by omega))
  have HD := Lib.hid (hrd.rd0 (n := k + 1) (by omega))
  have HA1 := Lib.hid (HA.out.below hbd)
  have HB1 := Lib.hid hbd
  have hg1 := hrd.lt
  clear hfd hnd hrd hbd HB U1
  have U2 := Lib.hid (shiftUp_any A n c s f w1 HA1.out hs (by omega) HF.out)
  go_wp2_with fail
  refine U2.out.mono ?_
  rintro e w2 ⟨Fr, rfl, hrr, hbr, hfr, hnr⟩
  obtain ⟨t0, ht0⟩ : ∃ t0, t0 + k = n := ⟨n - k, by omega⟩
  have ST := Lib.hid (long_start hs HF.out hfr hnr NT.out.2.2 ht0)
  have HFR := Lib.hid hfr
  have HNR := Lib.hid hnr
  have HR2 := Lib.hid hrr
  have HD2 := Lib.hid (HD.out.below hbr)
  have HB2 := Lib.hid (below_trans HB1.out hbr)
  have hg2 := hrr.lt
  have hs1 := hbr.size
  have hs0 := HB1.out.size
  clear hfr hnr hrr hbr U2 HD HB1 HA1
  have hsub : (n : Int) - ((k + 1 : Nat) : Int) + 1 = (t0 : Int) := by omega
  have hsub2 : (n : Int) - ((k : Int) + 1) + 1 = (t0 : Int) := by omega
  generalize hG1 : w'.heap.size = g1 at *
  generalize hG2 : w1.heap.size = g2 at *
  go_wp2_with (at_make; refine wpList_make_row rfl _ _ 22 rfl .u32 41 Try.underlying22 4 u32_info (by omega) .i64 .i64 _ _ t0 rfl rfl (by omega) (by omega) (by omega) ?_; intro w3 hrow3 hb3 hs3)
  have HR3 := Lib.hid hrow3
  have M0 := Lib.hid (show LongMem w' w3 g1 g2 w2.heap.size (k + 1) n t0 Fd Fr (fun _ => 0) from
    ⟨HR2.out.keep hb3, hrow3, HD2.out.below hb3, by rw [hG1]; exact HB2.out.trans (hb3.mono (by omega)), by omega, by omega, by omega, by omega, by omega⟩)
  have hDL := num_lt (B := 4294967296) (by omega) (k + 1) HFD.out
  rw [NT.out.1] at hDL
  have hD0 : 0 < 2 ^ s * num 4294967296 h (k + 1) := by
    have := NT.out.2.2
    have hp : 0 < 4294967296 ^ k := Nat.pow_pos (by omega)
    omega
  have L0 := Lib.hid (show LongNum (k + 1) n t0 (t0 - 0) (2 ^ s * num 4294967296 h (k + 1)) (2 ^ s * num 4294967296 f n) Fr (fun _ => 0) from
    ⟨HFR.out, fun j a b => by omega, fun j _ => by show (0 : Nat) < 4294967296; omega, ST.out, by
      rw [Nat.sub_zero, Nat.sub_self, show t0 + (k + 1) = n + 1 from by omega, HNR.out]; simp [num]⟩)
  have HDL := Lib.hid hDL
  have HD0 := Lib.hid hD0
  have NT1 := Lib.hid NT.out.1
  have NT2 := Lib.hid NT.out.2.1
  obtain ⟨g3, hG3⟩ : ∃ g3, g3 = w2.heap.size := ⟨_, rfl⟩
  rw [← hG3] at M0 HR3 ⊢
  clear hDL hD0 hG3 hb3 hs3 hrow3 HR2 HD2 HB2 HFR HNR ST NT hs1 hs0 hg1 hg2 HR3
  generalize hDe : 2 ^ s * num 4294967296 h (k + 1) = D at *
  generalize hRe : 2 ^ s * num 4294967296 f n = R at *
  have HDe := Lib.hid hDe
  have HRe := Lib.hid hRe
  clear hDe hRe hG1 hG2
  go_loopw [36] (fun v36 wr => ∃ i F Q, i ≤ t0 ∧ v36 = .int .i64 (i : Nat) ∧ LongMem w' wr g1 g2 g3 (k + 1) n t0 Fd F Q ∧ LongNum (k + 1) n t0 (t0 - i) D R F Q) (fun v36 _ => t0 - (intOf v36).toNat)
  case atStart => exact ⟨0, Fr, _, Nat.zero_le _, rfl, M0.out, L0.out⟩
  case round =>
    obtain ⟨i, F, Q, hi, rfl, hmem, hnum⟩ := hrel
    clear M0 L0
    have HM := Lib.hid hmem
    clear hmem
    by_cases hlt : i < t0
    · obtain ⟨j, hj⟩ : ∃ j, j + 1 + i = t0 := ⟨t0 - 1 - i, by omega⟩
      rw [show t0 - i = j + 1 from by omega] at hnum
      have hj1 : (t0 : Int) - 1 - (i : Int) = (j : Int) := by omega
      have DS := Lib.hid (divStep_any g2 j (k + 1) (n + 1 - j) (n + 1) (some ⟨g1, 0, none⟩) (k + 1 + 1) F Fd wr HM.out.1 (by omega) (by omega) (by omega) (by omega) (by omega) HM.out.2.2.1
        (fun ad e => by injection e with e; subst e; exact HM.out.2.2.2.2.2.2.2.1) (fun x hx => hnum.1 _ (by omega)) HFD.out (by simpa using NT2.out) (by rw [NT1.out]; exact long_seg hnum (by omega)))
      have HN := Lib.hid hnum
      clear hnum
      go_wp2_with fail
      rw [show j + (k + 1) + 1 - j = k + 1 + 1 from by omega]
      refine DS.out.mono ?_
      rintro e w4 ⟨Fp, rfl, p1, p2, p3, p4, p5⟩
      rw [NT1.out] at p5 ⊢
      have HM2 := Lib.hid (HM.out.step p1 p2)
      have HN2 := Lib.hid (long_step HN.out (by omega) (by omega) (Nat.le_of_lt HDL.out) HD0.out p3 p4 p5)
      have hcell := HM2.out.2.1.cell (j := j) (by omega)
      have hfz := HM2.out.2.1.frozen j
      clear p1 p2 p3 p4 p5 HM HN DS
      generalize num 4294967296 (fun i => F (j + i)) (k + 1 + 1) / D = q at *
      have HM3 := Lib.hid (HM2.out.store j q)
      clear HM2
      go_wp2
      go_roundw
      case rel => exact ⟨i + 1, Fp, _, by omega, by go_num, HM3.out, by rw [show t0 - (i + 1) = j from by omega]; exact HN2.out⟩
      case measure => simp [intOf]; omega
    · obtain rfl : i = t0 := by omega
      rw [Nat.sub_self] at hnum
      have LE := Lib.hid (unshift (s := s) (X := num 4294967296 f n) (Y := num 4294967296 h (k + 1)) (by rw [HDe.out, HRe.out]; exact long_end hnum (by omega)))
      have HQ := Lib.hid hnum.2.2.1
      have HFF := Lib.hid hnum.1
      have SD := Lib.hid (shiftDown_any g2 (n + 1) (n + 1) s F wr HM.out.1 hs (by omega) HFF.out)
      clear hnum
      go_wp2_with fail
      refine SD.out.mono ?_
      rintro e w5 ⟨F5, rfl, d1, d2, d3, d4⟩
      have hM := HM.out.step d1 d2
      have n1 : num 4294967296 F5 (n + 1) = num 4294967296 f n % num 4294967296 h (k + 1) := by
        rw [num_congr _ d3, num_sd s hs (n + 1) F HFF.out]; exact LE.out.2
      have l1 : ∀ j, j < n + 1 → F5 j < 4294967296 := fun j hj => by rw [d3 j hj]; exact Nat.mod_lt _ (by omega)
      have I1 := Lib.hid (isNat_row (c := i) hM.2.1 (Nat.le_refl _) (Nat.le_refl _) HQ.out LE.out.1)
      have I2 := Lib.hid (isNat_row (c := n + 1) hM.1 (Nat.le_refl _) (Nat.le_refl _) l1 n1)
      have I3 := Lib.hid hM.2.2.2.1
      have C1 := Lib.hid (cut_any _ i i Q w5 (hM.2.1.rd0 (Nat.le_refl _)) (Nat.le_refl _) (by omega))
      have C2 := Lib.hid (cut_any _ (n + 1) (n + 1) F5 w5 (hM.1.rd0 (Nat.le_refl _)) (Nat.le_refl _) (by omega))
      clear hM n1 l1 d1 d2 d3 d4 SD HM LE HQ HFF
      go_wp2_with fail
      refine C1.out.mono ?_
      rintro e w6 ⟨rfl, rfl⟩
      go_wp2_with fail
      refine C2.out.mono ?_
      rintro e w6 ⟨rfl, rfl⟩
      go_wp2
      go_ret2
      exact ⟨_, _, rfl, I1.out, I2.out, I3.out⟩
end Go.Proofs.Ytonjecddhbckgaa
