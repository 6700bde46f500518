/- Contracts: divStep. -/
import Derived.Test.YtonjecddhbckgaaGw
import Derived.Test.YtonjecddhbckgaaDa
import Derived.Test.YtonjecddhbckgaaCb
namespace Go.Proofs.Ytonjecddhbckgaa
open Go.RowKit

/-- Nothing was taken too often. -/
theorem step_right {R D k fn x y ov P : Nat} (hg : Guessed k R D) (hD : 0 < D) (hR : R = x + fn * P) (h : y + k * D = x + ov * P) (hge : ov ≤ fn) : k = R / D ∧ y + (fn - ov) * P = R % D := by
  have h1 : k * D ≤ R := by
    have : ov * P ≤ fn * P := Nat.mul_le_mul_right _ hge
    omega
  have h2 := (Nat.le_div_iff_mul_le hD).2 h1
  have h3 : k = R / D := Nat.le_antisymm h2 hg.1
  refine ⟨h3, ?_⟩
  have h4 := Nat.div_add_mod R D
  rw [← h3, Nat.mul_comm D k] at h4
  obtain ⟨t, rfl⟩ : ∃ t, fn = ov + t := ⟨fn - ov, by omega⟩
  rw [Nat.add_mul] at hR
  rw [Nat.add_sub_cancel_left]
  omega
/-- Too much was taken: once. -/
theorem step_over {R D k fn x y ov P : Nat} (hg : Guessed k R D) (hD : 0 < D) (hDP : D < P) (hR : R = x + fn * P) (h : y + k * D = x + ov * P) (hy : y < P) (hlt : fn < ov) :
    ov = fn + 1 ∧ k - 1 = R / D ∧ 1 ≤ k ∧ R % D + P = y + D := by
  have h1 : R < k * D := by
    have : (fn + 1) * P ≤ ov * P := Nat.mul_le_mul_right _ hlt
    rw [Nat.add_mul, Nat.one_mul] at this
    omega
  have h2 : R / D < k := (Nat.div_lt_iff_lt_mul hD).2 h1
  have hk := hg.2.1
  have h4 := Nat.div_add_mod R D
  have h5 := Nat.mod_lt R hD
  obtain ⟨q, hq⟩ : ∃ q, q = R / D := ⟨_, rfl⟩
  rw [← hq] at h2 hk h4 ⊢
  obtain rfl : k = q + 1 := by omega
  rw [Nat.add_mul, Nat.one_mul, Nat.mul_comm q D] at h
  have h6 : ov = fn + 1 := by
    rcases Nat.lt_or_ge ov (fn + 2) with h7 | h7
    · omega
    · have : (fn + 2) * P ≤ ov * P := Nat.mul_le_mul_right _ h7
      rw [Nat.add_mul] at this
      omega
  subst h6
  rw [Nat.add_mul, Nat.one_mul] at h
  refine ⟨rfl, by omega, by omega, by omega⟩

/-- What divStep leaves. -/
def StepPost (w w' : World) (e : Ending) (g o n sz R D : Nat) (f : Nat → Nat) : Prop :=
  ∃ F, e = .returned (.int .u32 (R / D : Nat)) ∧ Row .u32 41 w' g sz F ∧ Wr g w w' ∧ (∀ j, ¬ (o ≤ j ∧ j < o + (n + 1)) → F j = f j) ∧ (∀ j, j < n + 1 → F (o + j) < 4294967296) ∧ num 4294967296 (fun j => F (o + j)) (n + 1) = R % D

/-- What stands behind the adding back. -/
theorem step_back {w w' : World} {g o sz n cr R D : Nat} {F1 h F2 : Nat → Nat} (hi : AddInv w w' g o sz n cr F1 (fun j => if j < n then h j else 0) F2) (h4 : R % D + 4294967296 ^ n = num 4294967296 (fun j => F1 (o + j)) n + D) (hD : num 4294967296 h n = D) :
    cr = 1 ∧ num 4294967296 (fun j => F2 (o + j)) n = R % D := by
  obtain ⟨a1, a2, a3, a4, a5, a6⟩ := hi
  rw [num_pad n (Nat.le_refl _), hD] at a6
  have a7 : num 4294967296 (fun j => F2 (o + j)) n < 4294967296 ^ n := num_lt (by omega) n a5
  generalize R % D = r at *
  generalize 4294967296 ^ n = P at *
  rcases Nat.eq_zero_or_pos cr with h0 | h0
  · subst h0; omega
  · obtain rfl : cr = 1 := by omega
    exact ⟨rfl, by omega⟩

set_option maxHeartbeats 2000000 in
theorem divStep_any (g o n c sz : Nat) (B : Option Addr) (d : Nat) (f h : Nat → Nat) (w : World) (hrow : Row .u32 41 w g sz f) (hsz : o + (n + 1) ≤ sz) (hc : n + 1 ≤ c) (hn : 2 ≤ n) (hn2 : n ≤ 8796093022208) (hd : n ≤ d)
    (hb : Rd .u32 w B n h) (hoff : Off B g) (hf : ∀ j, j < n + 1 → f (o + j) < 4294967296) (hh : ∀ j, j < n → h j < 4294967296) (hv : 2147483648 ≤ h (n - 1))
    (hlt : num 4294967296 (fun j => f (o + j)) (n + 1) < num 4294967296 h n * 4294967296) :
    Calls Try.prog 66 #[.slice (some ⟨g, o, none⟩) (n + 1) c, .slice B n d] w fun e w' => StepPost w w' e g o n sz (num 4294967296 (fun j => f (o + j)) (n + 1)) (num 4294967296 h n) f := by
  have F := guFacts (f := fun j => f (o + j)) hn hf hh hv hlt
  have DP := num_lt (B := 4294967296) (f := h) (by omega) n hh
  have ra := hrow.rd (o := o) (n := n + 1) hsz
  obtain ⟨bd, rfl, _⟩ := hb 0 (by omega)
  have G := Lib.hid (guess_core (some ⟨g, o, none⟩) n c (some bd) d (f (o + n)) (f (o + (n - 1))) (f (o + (n - 2))) (h (n - 1)) (h (n - 2)) _ _ _ w hn hn2
    ⟨_, rfl, ra.at_ (by omega), ra.at_ (by omega), ra.at_ (by omega)⟩ ⟨_, rfl, hb.at_ (by omega), hb.at_ (by omega)⟩ F (hf n (by omega)) (hf (n - 1) (by omega)))
  have HDp := Lib.hid F.dp
  have HDP := Lib.hid DP
  have HRW := Lib.hid hrow
  have HB := Lib.hid hb
  have HO := Lib.hid hoff
  have HF := Lib.hid hf
  have HH := Lib.hid hh
  have HR : Hid (num 4294967296 (fun j => f (o + j)) (n + 1) = num 4294967296 (fun j => f (o + j)) n + f (o + n) * 4294967296 ^ n) := rfl
  clear F DP ra hrow hb hoff hf hh hlt hv
  generalize num 4294967296 (fun j => f (o + j)) (n + 1) = R at *
  generalize hDD : num 4294967296 h n = D at *
  have HDD := Lib.hid hDD
  clear hDD
  go_enter Try.func66, Try.ntmps66
  go_wp2_with fail
  refine G.out.mono ?_
  rintro e w1 ⟨k, rfl, hgs, nq, hw1⟩
  have hk32 : k < 4294967296 := hgs.2.2
  have hrow1 : Row .u32 41 w1 g sz f := by rw [hw1]; exact HRW.out
  have hb1 : Rd .u32 w1 (some bd) n h := by rw [hw1]; exact HB.out
  have HWR : Hid (Wr g w w1) := by rw [hw1]; exact ⟨rfl, rfl, rfl, Nat.le_refl _, fun _ _ _ => rfl⟩
  have HGS := Lib.hid hgs
  have DS := Lib.hid (subTimes_any g o n c (some bd) n d sz k f h w1 hrow1 (by omega) (Nat.le_refl _) hk32 hb1 (fun _ => HO.out) (fun j hj => HF.out j (by omega)) HH.out (by omega))
  have HB1 := Lib.hid hb1
  clear hrow1 hb1 hgs hw1
  go_wp2_with fail
  refine DS.out.mono ?_
  rintro e w2 ⟨ov, F1, rfl, hst⟩
  have hov : ov < 4294967296 := hst.1
  have hfn : F1 (o + n) = f (o + n) := hst.2.2.2.1 _ (by omega)
  have hcell := hst.2.1.cell (j := o + n) (by omega)
  rw [hfn] at hcell
  have hfz := hst.2.1.frozen (o + n)
  have hfl := HF.out n (by omega)
  obtain ⟨fn, hfne⟩ : ∃ fn, fn = f (o + n) := ⟨_, rfl⟩
  rw [← hfne] at hcell hfl hfn
  have HNUM : Hid (num 4294967296 (fun j => F1 (o + j)) n + k * D = num 4294967296 (fun j => f (o + j)) n + ov * 4294967296 ^ n) := by
    have := hst.2.2.2.2.2
    rw [HDD.out] at this
    exact this
  have HRe : Hid (R = num 4294967296 (fun j => f (o + j)) n + fn * 4294967296 ^ n) := by rw [hfne]; exact HR.out
  have HST := Lib.hid hst
  have HFN := Lib.hid hfn
  clear hst hfne DS hfn
  by_cases hge : ov ≤ fn
  · obtain ⟨r1, r2⟩ := step_right HGS.out HDp.out HRe.out HNUM.out hge
    have R1 := Lib.hid r1
    have R2 := Lib.hid r2
    clear r1 r2
    have hwf : IntKind.u32.wrap ((fn : Int) - (ov : Int)) = (fn : Int) - (ov : Int) := IntWalk.u32_in _ ⟨by omega, by omega⟩
    go_wp2
    go_ret
    obtain ⟨s1, s2, s3, s4, s5, s6⟩ := HST.out
    have e1 : ((fn : Int) - (ov : Int)) = ((fn - ov : Nat) : Int) := by omega
    rw [e1]
    refine ⟨upd F1 (o + n) (fn - ov), by rw [R1.out]; rfl, s2.set_ _ _, HWR.out.trans (s3.setCell _ _), fun j hj => ?_, fun j hj => ?_, ?_⟩
    · rw [upd_ne _ _ _ (by omega)]; exact s4 j (by omega)
    · by_cases hjn : j = n
      · subst hjn; rw [upd_same]; omega
      · rw [upd_ne _ _ _ (by omega)]; exact s5 j (by omega)
    · rw [num_succ, upd_same, num_congr (f' := fun j => F1 (o + j)) n (fun j hj => upd_ne _ _ _ (by omega))]
      exact R2.out
  · have hy : num 4294967296 (fun j => F1 (o + j)) n < 4294967296 ^ n := num_lt (by omega) n HST.out.2.2.2.2.1
    obtain ⟨r1, r2, r3, r4⟩ := step_over HGS.out HDp.out HDP.out HRe.out HNUM.out hy (by omega)
    have R2 := Lib.hid r2
    have R4 := Lib.hid r4
    subst r1
    clear r2 r4 hy
    have hw3 : IntKind.u32.wrap ((fn : Int) - ((fn : Int) + 1)) = 4294967295 := by rw [IntKind.wrap_u32]; omega
    have hw5 : IntKind.u32.wrap (-1) = 4294967295 := by rw [IntKind.wrap_u32]; rfl
    have hw4 : IntKind.u32.wrap 4294967296 = 0 := by rw [IntKind.wrap_u32]; rfl
    have DA := Lib.hid (fun w9 hq1 hq2 => addTo_any g o n c (some bd) n d sz F1 h w9 hq1 (by omega) (by omega) (Nat.le_refl _) hd hq2 (fun _ => HO.out) (fun j hj => HST.out.2.2.2.2.1 j hj) HH.out (by omega))
    have RW2 := Lib.hid HST.out.2.1
    have RB2 := Lib.hid (HB1.out.wr HO.out HST.out.2.2.1)
    have HBK : Hid (∀ w9 w3 cr F2, AddInv w9 w3 g o sz n cr F1 (fun j => if j < n then h j else 0) F2 → cr = 1 ∧ num 4294967296 (fun j => F2 (o + j)) n = R % D) := fun w9 w3 cr F2 hi => step_back hi R4.out HDD.out
    go_wp2
    go_region_with (go_at_call 44; refine (DA.out (World.drew w2) RW2.out.drew RB2.out.drew).mono ?_; rintro e w3 ⟨cr, F2, rfl, hadd⟩; obtain ⟨hcr, hnum⟩ := HBK.out _ _ _ _ hadd; subst hcr; have hcell3 := hadd.2.1.cell (j := o + n) (by omega); rw [hadd.2.2.2.1 (o + n) (by omega), HFN.out] at hcell3; have hfz3 := hadd.2.1.frozen (o + n); have HADD := Lib.hid hadd; have HNM := Lib.hid hnum; clear hadd hnum)
    all_goals
      go_wp2
      go_ret
      obtain ⟨a1, a2, a3, a4, a5, a6⟩ := HADD.out
      refine ⟨upd F2 (o + n) 0, by rw [← R2.out, show ((k - 1 : Nat) : Int) = (k : Int) - 1 from by omega]; rfl, a2.set_ _ 0, HWR.out.trans (HST.out.2.2.1.trans ((Wr.drew Wr.refl).trans (a3.setCell _ _))), fun j hj => ?_, fun j hj => ?_, ?_⟩
      · rw [upd_ne _ _ _ (by omega), a4 j (by omega)]; exact HST.out.2.2.2.1 j (by omega)
      · by_cases hjn : j = n
        · subst hjn; rw [upd_same]; omega
        · rw [upd_ne _ _ _ (by omega)]; exact a5 j (by omega)
      · rw [num_succ, upd_same, num_congr (f' := fun j => F2 (o + j)) n (fun j hj => upd_ne _ _ _ (by omega)), Nat.zero_mul, Nat.add_zero]
        exact HNM.out
end Go.Proofs.Ytonjecddhbckgaa
