/- Contracts of the document's own numbers: Limbs, Trim. -/
import Derived.Test.YtonjecddhbckgaaRa
import Derived.Test.YtonjecddhbckgaaCo
namespace Go.Proofs.Ytonjecddhbckgaa
open Go.RowKit

/-- A digit, 0 behind the end. -/
def dg (f : Nat → Nat) (n : Nat) : Nat → Nat := fun j => if j < n then f j else 0
theorem dg_lt {f : Nat → Nat} {n : Nat} (hf : ∀ j, j < n → f j < 256) (j : Nat) : dg f n j < 256 := by
  unfold dg; split
  · exact hf _ ‹_›
  · omega
theorem num_dg {B : Nat} {f : Nat → Nat} {n m : Nat} (h : n ≤ m) : num B (dg f n) m = num B f n := num_pad m h

/-- What Limbs keeps: t limbs are there. -/
def LimbsInv (wr : World) (base : Nat) (v : Value) (t n : Nat) (f : Nat → Nat) : Prop :=
  ∃ F, Own .u32 41 wr base v t F ∧ (∀ j, j < t → F j < 4294967296) ∧ num 4294967296 F t = num 256 (dg f n) (4 * t)

theorem LimbsInv.step {w2 : World} {base t n x : Nat} {v2 : Value} {f F : Nat → Nat} (h1 : Own .u32 41 w2 base v2 (t + 1) (appF F t (fun _ => x))) (h2 : ∀ j, j < t → F j < 4294967296) (h3 : num 4294967296 F t = num 256 (dg f n) (4 * t))
    (hx : x < 4294967296) (hx2 : x = num 256 (fun j => dg f n (4 * t + j)) 4) : LimbsInv w2 base v2 (t + 1) n f := by
  refine ⟨_, h1, fun j hj => ?_, ?_⟩
  · simp only [appF]
    split
    · exact h2 j ‹_›
    · exact hx
  · rw [num_succ, num_congr (f' := F) t (fun j hj => by simp [appF, hj]), h3]
    simp only [appF, Nat.lt_irrefl, if_false]
    rw [show 4 * (t + 1) = 4 * t + 4 from by omega, num_add, ← hx2, pow_limb, Nat.mul_comm x]

theorem below_trans_ {w w1 w2 : World} (h : Below w.heap.size w w1) (h' : Below w1.heap.size w1 w2) : Below w.heap.size w w2 := h.trans (h'.mono h.size)

theorem num_from_top {B : Nat} (g : Nat → Nat) (k p : Nat) : num B (fun j => g (k + j)) (p + 1) = g k + B * num B (fun j => g (k + 1 + j)) p := by
  rw [num_first (by omega)]
  simp only [Nat.add_zero, Nat.add_sub_cancel]
  congr 2
  exact num_congr p fun j _ => by congr 1; omega

set_option maxHeartbeats 1000000 in
theorem limbs_any (A : Option Addr) (n c : Nat) (f : Nat → Nat) (w : World) (ha : Rd .i64 w A n f) (hc : n ≤ c) (hn : n ≤ 1099511627776) (hf : ∀ j, j < n → f j < 256) :
    Calls Try.prog 39 #[.slice A n c] w fun e w' => NatPost w w' e (num 256 f n) := by
  have C := rcut_any A n c f w ha hc (by omega)
  have ht := tlen_le (f := f) n
  have ha' := ha.less ht
  have hf' : ∀ j, j < tlen f n → f j < 256 := fun j hj => hf j (by omega)
  have HT := Lib.hid (tlen_trimmed (f := f) n)
  have HN := Lib.hid (num_tlen (B := 256) (f := f) n)
  have D := Lib.hid C
  have HF := Lib.hid hf'
  have HA := Lib.hid ha'
  clear C hf hf' ha ha'
  generalize hNN : num 256 f n = N at *
  clear hNN
  generalize tlen f n = p at *
  go_enter Try.func39, Try.ntmps39
  go_wp2_with fail
  refine D.out.mono ?_
  rintro e w2 ⟨rfl, hw⟩
  subst w2
  clear D
  go_wp2
  go_loopw [3, 4] (fun v3 v4 wr => ∃ t, 4 * t ≤ p + 3 ∧ v4 = .int .i64 ((4 * t : Nat)) ∧ w.heap.size ≤ wr.heap.size ∧ LimbsInv wr w.heap.size v3 t p f ∧ Below w.heap.size w wr) (fun _ v4 _ => p + 3 - (intOf v4).toNat)
  case atStart => exact ⟨0, by omega, rfl, Nat.le_refl _, ⟨fun _ => 0, Own.nil, fun j hj => absurd hj (by omega), rfl⟩, Below.refl _ _⟩
  case round =>
    obtain ⟨t, htp, rfl, hws, hinv, hbl⟩ := hrel
    by_cases hlt : 4 * t < p
    · have HI := Lib.hid hinv
      have HB := Lib.hid hbl
      clear hinv hbl
      go_wp2
      obtain ⟨wo, rfl⟩ : ∃ wo : World, wo = wr := ⟨_, rfl⟩
      go_loopw [5, 6] (fun v5 v6 w4 => ∃ q x, q ≤ 4 ∧ w4 = wo ∧ v5 = .int .u32 (x : Nat) ∧ v6 = .int .i64 (3 - (q : Nat)) ∧ x < 256 ^ q ∧ x = num 256 (fun j => dg f p (4 * t + (4 - q) + j)) q) (fun _ v6 _ => ((intOf v6) + 1).toNat)
      case atStart => exact ⟨0, 0, by omega, rfl, rfl, rfl, by simp, rfl⟩
      case round =>
        obtain ⟨q, x, hq, hwo, rfl, rfl, hx, hxe⟩ := hrel
        subst hwo
        have hx3 : q < 4 → x < 16777216 := fun h => Nat.lt_of_lt_of_le hx (Nat.le_trans (Nat.pow_le_pow_right (by omega) (show q ≤ 3 by omega)) (by decide))
        by_cases hq4 : q < 4
        · have hx4 := hx3 hq4
          have HX : Hid (∀ d, d = dg f p (4 * t + (3 - q)) → d < 256 → x * 256 + d < 256 ^ (q + 1) ∧ x * 256 + d = num 256 (fun j => dg f p (4 * t + (4 - (q + 1)) + j)) (q + 1)) := by
            intro d hd hd2
            refine ⟨by rw [Nat.pow_succ]; omega, ?_⟩
            rw [num_from_top (dg f p) (4 * t + (4 - (q + 1))) q, show 4 * t + (4 - (q + 1)) = 4 * t + (3 - q) from by omega, ← hd]
            have e : num 256 (fun j => dg f p (4 * t + (3 - q) + 1 + j)) q = x := by
              rw [hxe]
              exact num_congr q fun j _ => by congr 1; omega
            rw [e]
            omega
          clear hx hxe hx3
          by_cases hin : 4 * t + (3 - q) < p
          · obtain ⟨ad, rfl, hcell⟩ := (HA.out.below HB.out) (4 * t + (3 - q)) hin
            have hb := HF.out _ hin
            have HX2 := Lib.hid (HX.out (f (4 * t + (3 - q))) (by unfold dg; rw [if_pos hin]) hb)
            clear HX
            go_wp2
            go_roundw
            case rel => exact ⟨q + 1, x * 256 + f (4 * t + (3 - q)), by omega, (by first | rfl | trivial), by go_num, by go_num, HX2.out.1, HX2.out.2⟩
            case measure => simp [intOf]; omega
          · have HX2 := Lib.hid (HX.out 0 (by unfold dg; rw [if_neg hin]) (by omega))
            clear HX
            go_wp2
            go_roundw
            case rel => exact ⟨q + 1, x * 256, by omega, (by first | rfl | trivial), by go_num, by go_num, by have := HX2.out.1; rwa [Nat.add_zero] at this, by have := HX2.out.2; rwa [Nat.add_zero] at this⟩
            case measure => simp [intOf]; omega
        · obtain rfl : q = 4 := by omega
          have hx32 : x < 4294967296 := Nat.lt_of_lt_of_le hx (by decide)
          have HXE : Hid (x = num 256 (fun j => dg f p (4 * t + j)) 4) := by show _ = _; simpa using hxe
          clear hx hxe hx3
          obtain ⟨F, o1, o2, o3⟩ := HI.out
          have hrd1 : Rd .u32 (wr.alloc (.cells #[.int .u32 (x : Nat)] 41)) (some ⟨wr.heap.size, 0, none⟩) 1 (fun _ => x) := (row_one wr x).rd0 (Nat.le_refl _)
          have hown1 := o1.alloc (.cells #[.int .u32 (x : Nat)] 41)
          have hbn := below_new wr (.cells #[.int .u32 (x : Nat)] 41)
          have O2 := Lib.hid o2
          have O3 := Lib.hid o3
          clear o1 o2 o3
          go_wp2_with (at_builtin; refine wpList_app rfl (.tmp 36) (.tmp 38) 22 rfl .u32 41 Try.underlying22 4 u32_info' (by omega) w.heap.size u3 t F rfl hown1 (some ⟨wr.heap.size, 0, none⟩) 1 1 (fun _ => x) rfl hrd1 (fun h => by cases h) (by omega) (by simp; omega) ?_; intro v2 w5 hown2 hb2 hsz2)
          have HS := Lib.hid (LimbsInv.step hown2 O2.out O3.out hx32 HXE.out)
          have HB5 := Lib.hid ((HB.out.trans (hbn.mono hws)).trans hb2)
          have hws3 : w.heap.size ≤ w5.heap.size := by simp at hsz2; omega
          clear hown2 hb2 hsz2 hbn hown1 hrd1
          go_wp2
          go_roundw
          case rel => exact ⟨t + 1, by omega, by go_num, hws3, HS.out, HB5.out⟩
          case measure => simp [intOf]; omega
    · obtain ⟨F, o1, o2, o3⟩ := hinv
      rw [num_dg (by omega), HN.out] at o3
      have HQ : Hid (IsNat wr u3 N) := by
        have htr : Trimmed F t := trimmed_of_low o2 (by
          rcases Nat.eq_zero_or_pos t with h | h
          · exact .inl h
          · right
            have h1 := HT.out.low (B := 256) (by omega)
            rw [HN.out, ← o3] at h1
            rw [pow_limb]
            exact Nat.le_trans (Nat.pow_le_pow_right (by omega) (by omega)) h1)
        rcases o1.form with ⟨rfl, h2⟩ | ⟨g, c, rfl, hg, hc⟩
        · exact ⟨none, 0, 0, F, rfl, Nat.le_refl _, Rd.zero, fun j hj => absurd hj (by omega), .inl rfl, by rw [← o3, h2]⟩
        · exact ⟨_, t, c, F, rfl, hc, o1.rd_, o2, htr, o3⟩
      clear o1 o2 o3
      go_wp2
      go_ret
      exact ⟨_, rfl, HQ.out, hbl⟩

theorem IsDig.limbs {w : World} {v : Value} {N k : Nat} (h : IsDig w v N) (hN : N < 256 ^ k) (hk : k ≤ 1000000000) : Calls Try.prog 39 #[v] w fun e w' => NatPost w w' e N := by
  obtain ⟨A, n, c, f, rfl, h2, _, h4, h5, h6, h7⟩ := h
  have hn : n ≤ k := h6.len (B := 256) (by omega) (by rw [h7]; exact hN)
  rw [← h7]
  exact limbs_any A n c f w h4 h2 (by omega) h5

set_option maxHeartbeats 1000000 in
theorem rtrim_any (A : Option Addr) (n c : Nat) (f : Nat → Nat) (w : World) (ha : Rd .u32 w A n f) (hc : n ≤ c) (hn : n ≤ 1000000) (hf : ∀ j, j < n → f j < 4294967296) :
    Calls Try.prog 17 #[.slice A n c] w fun e w' => NatPost w w' e (num 4294967296 f n) := by
  have D := Lib.hid (digits_any A n c f w ha hc (by omega) hf)
  have HN : Hid (num 4294967296 f n < 256 ^ (4 * n)) := by
    show _ < _
    rw [← pow_limb]; exact num_lt (by omega) n hf
  clear ha hf
  generalize num 4294967296 f n = N at *
  go_enter Try.func17, Try.ntmps17
  go_wp2_with fail
  refine D.out.mono ?_
  rintro e w1 ⟨v1, rfl, hv1, hb1⟩
  go_wp2_with fail
  refine (hv1.limbs HN.out (by omega)).mono ?_
  rintro e w2 ⟨v2, rfl, hv2, hb2⟩
  go_wp2
  go_ret
  exact ⟨_, rfl, hv2, below_trans_ hb1 hb2⟩
end Go.Proofs.Ytonjecddhbckgaa
