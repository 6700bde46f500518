/- Contracts: Parse. -/
import Derived.Test.YtonjecddhbckgaaCo
namespace Go.Proofs.Ytonjecddhbckgaa
open Go.RowKit

theorem isNumber_any (s : ByteArray) (w : World) (hm : s.size ≤ 4611686018427387904) (b : Bool) (hb : b = true ↔ IsNum s) :
    Calls Try.prog 56 #[.string s] w fun e w' => e = .returned (.bool b) ∧ w' = w := by
  have hf : ¬ IsNum s → b = false := fun h => by
    cases b
    · rfl
    · exact absurd (hb.1 rfl) h
  by_cases h0 : s.size = 0
  · have e : s = ByteArray.empty := by
      cases s with | mk d => 
      have : d = #[] := Array.eq_empty_of_size_eq_zero h0
      subst this; rfl
    rw [hf (fun h => by have := h.1; omega), e]
    exact isNumber_empty w
  · by_cases h1 : 40000 < s.size
    · rw [hf (fun h => by have := h.2.1; omega)]
      exact isNumber_long s w h1 hm
    · by_cases h2 : bt s 0 = 48 ∧ 1 < s.size
      · rw [hf (fun h => h.2.2.1 h2)]
        exact isNumber_lead s w (by omega) h2.2 h2.1
      · exact isNumber_rest s w (by omega) (by omega) (by omega) b (hb.trans ⟨fun h => h.2.2.2, fun h => ⟨by omega, by omega, h2, h⟩⟩)

/-- What Parse leaves. -/
def ParsePost (w w' : World) (e : Ending) (b : Bool) (N : Nat) : Prop := ∃ v, e = .returned (.tuple #[v, .bool b]) ∧ IsNat w' v N ∧ Below w.heap.size w w'

set_option maxHeartbeats 1000000 in
theorem parse_no (s : ByteArray) (w : World) (hm : s.size ≤ 4611686018427387904) (h : ¬ IsNum s) :
    Calls Try.prog 29 #[.string s] w fun e w' => ParsePost w w' e false 0 := by
  have D := Lib.hid (isNumber_any s w hm false ⟨fun h2 => (by cases h2), fun h2 => absurd h2 h⟩)
  clear h
  go_enter Try.func29, Try.ntmps29
  go_wp2_with fail
  refine D.out.mono ?_
  rintro e w' ⟨rfl, rfl⟩
  go_wp2
  go_ret2
  exact ⟨_, rfl, isNat_nil _, Below.refl _ _⟩

theorem bt_extract (s : ByteArray) (a b i : Nat) (hb : b ≤ s.size) (hi : a + i < b) : bt (s.extract a b) i = bt s (a + i) := by
  have h1 : i < (s.extract a b).size := by rw [ByteArray.size_extract]; omega
  rw [bt_get _ _ h1, bt_get _ _ (by omega), ByteArray.getElem_extract]

theorem ownNat_len {w : World} {base : Nat} {v : Value} {N k : Nat} (h : OwnNat w base v N) (hN : N < 10 ^ (9 * k)) : ∃ n f, Own .u32 41 w base v n f ∧ (∀ j, j < n → f j < 4294967296) ∧ Trimmed f n ∧ num 4294967296 f n = N ∧ n ≤ k := by
  obtain ⟨n, f, h1, h2, h3, h4⟩ := h
  refine ⟨n, f, h1, h2, h3, h4, h3.len (B := 4294967296) (by omega) (k := k) ?_⟩
  rw [h4]
  rw [Nat.pow_mul] at hN
  exact Nat.lt_of_lt_of_le hN (Nat.pow_le_pow_left (by decide) k)

set_option maxHeartbeats 1000000 in
theorem parse_yes (s : ByteArray) (w : World) (h : IsNum s) :
    Calls Try.prog 29 #[.string s] w fun e w' => ParsePost w w' e true (dval (bt s) s.size) := by
  have D := Lib.hid (isNumber_any s w (by have := h.2.1; omega) true ⟨fun _ => h, fun _ => rfl⟩)
  have h0 := h.1
  have h1 := h.2.1
  have HD := Lib.hid h.2.2.2
  clear h
  have hr9 : s.size % 9 < 9 := Nat.mod_lt _ (by omega)
  have hdm := Lib.hid (Nat.div_add_mod s.size 9)
  go_enter Try.func29, Try.ntmps29
  go_wp2_with fail
  refine D.out.mono ?_
  rintro e w2 ⟨rfl, hw⟩
  subst w2
  go_wp2_with (at_make; refine wpList_make_cap rfl _ _ 22 rfl .u32 41 Try.underlying22 4 u32_info' (by omega) _ _ _ (s.size / 9 + 1) rfl rfl (by omega) (by omega) (fun _ => 0) ?_; intro w1 hown1 hb1 hs1)
  refine (pushGroup_any w.heap.size _ 0 (fun _ => 0) (s.extract 0 (s.size % 9)) w1 hown1 hs1 (fun j hj => absurd hj (by omega)) (.inl rfl) (by omega) (by rw [ByteArray.size_extract]; omega) (fun i hi => ?_)).mono ?_
  · rw [ByteArray.size_extract] at hi
    rw [bt_extract _ _ _ _ (by omega) (by omega)]
    exact HD.out _ (by omega)
  rintro e w3 ⟨v3, rfl, hv3, hb3⟩
  have HV3 : Hid (OwnNat w3 w.heap.size v3 (dval (bt s) (s.size % 9 + 9 * 0))) := by
    have e1 : dval (bt (s.extract 0 (s.size % 9))) (s.extract 0 (s.size % 9)).size = dval (bt s) (s.size % 9 + 9 * 0) := by
      rw [ByteArray.size_extract, show min (s.size % 9) s.size - 0 = s.size % 9 + 9 * 0 from by omega]
      exact dval_congr _ fun i hi => by rw [bt_extract _ _ _ _ (by omega) (by omega), Nat.zero_add]
    rw [e1] at hv3
    simp only [num, Nat.zero_mul, Nat.zero_add] at hv3
    exact hv3
  have HB3 := Lib.hid (hb1.trans hb3)
  have hs3 : w.heap.size ≤ w3.heap.size := Nat.le_trans hs1 hb3.size
  clear hv3 hb1 hb3 hown1
  go_wp2
  go_loopw [4, 6, 7, 27] (fun v4 _ _ v27 wr => ∃ k, k ≤ s.size / 9 ∧ v27 = .int .i64 (k : Nat) ∧ w.heap.size ≤ wr.heap.size ∧ OwnNat wr w.heap.size v4 (dval (bt s) (s.size % 9 + 9 * k)) ∧ Below w.heap.size w wr) (fun _ _ _ v27 _ => s.size / 9 - (intOf v27).toNat)
  case atStart => exact ⟨0, Nat.zero_le _, rfl, hs3, HV3.out, HB3.out⟩
  case round =>
    obtain ⟨k, hk, rfl, hws, hv, hbl⟩ := hrel
    clear HV3 HB3
    by_cases hlt : k < s.size / 9
    · obtain ⟨n, f, o1, o2, o3, o4, o5⟩ := ownNat_len (k := k + 1) hv (by
        refine Nat.lt_of_lt_of_le (dval_lt _ fun i hi => (HD.out i (by omega)).2) (Nat.pow_le_pow_right (by omega) (by omega)))
      have hsz : (s.extract (s.size % 9 + 9 * k) (s.size % 9 + 9 * k + 9)).size = 9 := by rw [ByteArray.size_extract]; omega
      have DP := Lib.hid (pushGroup_any w.heap.size _ n f (s.extract (s.size % 9 + 9 * k) (s.size % 9 + 9 * k + 9)) wr o1 hws o2 o3 (by omega) (by omega) (fun i hi => by
        rw [hsz] at hi
        rw [bt_extract _ _ _ _ (by omega) (by omega)]
        exact HD.out _ (by omega)))
      have HE : Hid (num 4294967296 f n * 1000000000 + dval (bt (s.extract (s.size % 9 + 9 * k) (s.size % 9 + 9 * k + 9))) (s.extract (s.size % 9 + 9 * k) (s.size % 9 + 9 * k + 9)).size = dval (bt s) (s.size % 9 + 9 * (k + 1))) := by
        show _ = _
        have e2 : dval (bt (s.extract (s.size % 9 + 9 * k) (s.size % 9 + 9 * k + 9))) 9 = dval (fun j => bt s (s.size % 9 + 9 * k + j)) 9 :=
          dval_congr 9 fun i hi => bt_extract s (s.size % 9 + 9 * k) (s.size % 9 + 9 * k + 9) i (by omega) (by omega)
        have e3 := dval_add (bt s) (s.size % 9 + 9 * k) 9
        rw [show (10 : Nat) ^ 9 = 1000000000 from by decide] at e3
        rw [hsz, o4, e2, show s.size % 9 + 9 * (k + 1) = s.size % 9 + 9 * k + 9 from by omega, e3]
      clear o1 o2 o3 o4 hsz hv
      go_wp2_with fail
      refine DP.out.mono ?_
      rintro e w4 ⟨v4, rfl, hv4, hb4⟩
      rw [HE.out] at hv4
      have HV4 := Lib.hid hv4
      have HB4 := Lib.hid (hbl.trans hb4)
      have hs4 : w.heap.size ≤ w4.heap.size := Nat.le_trans hws hb4.size
      clear hv4 hb4 hbl DP HE
      go_wp2
      go_roundw
      case rel => exact ⟨k + 1, by omega, by go_num, hs4, HV4.out, HB4.out⟩
      case measure => simp [intOf]; omega
    · obtain rfl : k = s.size / 9 := by omega
      rw [show s.size % 9 + 9 * (s.size / 9) = s.size from by omega] at hv
      obtain ⟨n, f, o1, o2, o3, o4⟩ := hv
      have HQ : Hid (IsNat wr u4 (dval (bt s) s.size)) := by
        rcases o1.form with ⟨rfl, h2⟩ | ⟨g, c, rfl, hg, hc⟩
        · exact ⟨none, 0, 0, f, rfl, Nat.le_refl _, Rd.zero, fun j hj => absurd hj (by omega), .inl rfl, by rw [← o4, h2]⟩
        · exact ⟨_, n, c, f, rfl, hc, o1.rd_, o2, o3, o4⟩
      clear o1 o2 o3 o4
      go_wp2
      go_ret2
      exact ⟨_, rfl, HQ.out, hbl⟩
end Go.Proofs.Ytonjecddhbckgaa
