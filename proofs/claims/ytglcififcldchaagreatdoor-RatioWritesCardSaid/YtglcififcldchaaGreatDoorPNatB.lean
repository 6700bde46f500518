/- Merged of Co,Cp,De. -/

import Derived.Test.YtglcififcldchaaGreatDoorPNat0
import Derived.Test.YtglcififcldchaaGreatDoorPNatA
/- Contracts: pushGroup. -/
namespace Go.Proofs.YtglcififcldchaaGreatDoor
open Go.RowKit

/-- The value of decimal characters, the highest first. -/
def dval (f : Nat → Nat) : Nat → Nat
  | 0 => 0
  | k + 1 => 10 * dval f k + (f k - 48)
theorem dval_lt {f : Nat → Nat} : ∀ k, (∀ i, i < k → f i ≤ 57) → dval f k < 10 ^ k
  | 0, _ => by simp [dval]
  | k + 1, h => by
    have h1 := dval_lt k fun i hi => h i (by omega)
    have h2 := h k (by omega)
    rw [dval, Nat.pow_succ]
    omega
theorem dval_add (f : Nat → Nat) (a : Nat) : ∀ b, dval f (a + b) = dval f a * 10 ^ b + dval (fun j => f (a + j)) b
  | 0 => by simp [dval]
  | b + 1 => by
    rw [← Nat.add_assoc, dval, dval_add f a b, dval, Nat.pow_succ, Nat.mul_add, ← Nat.add_assoc]
    congr 2
    rw [Nat.mul_comm 10, Nat.mul_assoc]
theorem dval_congr {f f' : Nat → Nat} : ∀ k, (∀ i, i < k → f i = f' i) → dval f k = dval f' k
  | 0, _ => rfl
  | k + 1, h => by rw [dval, dval, dval_congr k fun i hi => h i (by omega), h k (by omega)]

/-- After k limbs: times M, and cy0 besides. -/
def MulAddInv (k M cy0 cy : Nat) (f f' : Nat → Nat) : Prop :=
  cy < M ∧ (∀ j, k ≤ j → f' j = f j) ∧ (∀ j, j < k → f' j < 4294967296) ∧ num 4294967296 f' k + cy * 4294967296 ^ k = num 4294967296 f k * M + cy0

theorem MulAddInv.step {k M cy0 cy : Nat} {f f' : Nat → Nat} (hi : MulAddInv k M cy0 cy f f') (hf : f k < 4294967296) :
    MulAddInv (k + 1) M cy0 ((cy + f' k * M) / 4294967296) f (upd f' k ((cy + f' k * M) % 4294967296)) := by
  obtain ⟨h1, h2, h3, h4⟩ := hi
  have e0 : f' k = f k := h2 k (Nat.le_refl _)
  rw [e0]
  have hlt : (cy + f k * M) / 4294967296 < M := by
    rw [Nat.div_lt_iff_lt_mul (by omega)]
    have : (f k + 1) * M ≤ 4294967296 * M := Nat.mul_le_mul_right _ hf
    rw [Nat.add_mul, Nat.one_mul] at this
    rw [Nat.mul_comm M]
    omega
  refine ⟨hlt, fun j hj => ?_, fun j hj => ?_, ?_⟩
  · rw [upd_ne _ _ _ (by omega)]; exact h2 j (by omega)
  · by_cases hjk : j = k
    · subst hjk; rw [upd_same]; exact Nat.mod_lt _ (by omega)
    · rw [upd_ne _ _ _ (by omega)]; exact h3 j (by omega)
  · rw [num_succ, num_succ, upd_same, num_upd _ _ (Nat.le_refl _)]
    have hd := Nat.div_add_mod (cy + f k * M) 4294967296
    generalize (cy + f k * M) % 4294967296 = r at *
    generalize (cy + f k * M) / 4294967296 = q at *
    have e3 : r * 4294967296 ^ k + q * 4294967296 ^ (k + 1) = (cy + f k * M) * 4294967296 ^ k := by
      rw [← hd, Nat.pow_succ, Nat.add_mul, Nat.add_comm]
      congr 1
      rw [Nat.mul_comm (4294967296 ^ k), ← Nat.mul_assoc, Nat.mul_comm q]
    rw [Nat.add_mul] at e3
    have e5 : (num 4294967296 f k + f k * 4294967296 ^ k) * M = num 4294967296 f k * M + f k * M * 4294967296 ^ k := by
      rw [Nat.add_mul, Nat.mul_assoc, Nat.mul_comm (4294967296 ^ k) M, ← Nat.mul_assoc]
    rw [e5]
    omega

theorem trimmed_of_low {f : Nat → Nat} {n : Nat} (hf : ∀ j, j < n → f j < 4294967296) (h : n = 0 ∨ 4294967296 ^ (n - 1) ≤ num 4294967296 f n) : Trimmed f n := by
  rcases h with h | h
  · exact .inl h
  · by_cases hn : n = 0
    · exact .inl hn
    · right
      intro h0
      obtain ⟨k, rfl⟩ : ∃ k, n = k + 1 := ⟨n - 1, by omega⟩
      simp only [Nat.add_sub_cancel] at h h0
      rw [num_succ, h0] at h
      have := num_lt (B := 4294967296) (f := f) (by omega) k fun j hj => hf j (by omega)
      omega

/-- A trimmed number of the call's own. -/
def OwnNat (w : World) (base : Nat) (v : Value) (N : Nat) : Prop :=
  ∃ n f, Own .u32 86 w base v n f ∧ (∀ j, j < n → f j < 4294967296) ∧ Trimmed f n ∧ num 4294967296 f n = N

def PushPost (w w' : World) (e : Ending) (base N : Nat) : Prop := ∃ v, e = .returned v ∧ OwnNat w' base v N ∧ Below base w w'

theorem u32_info' : (Tryz.prog.info? 86).map (fun i => (i.zero, i.size, i.bytes)) = some (some (.int .u32 0), 1, 4) := by kernel_rfl

set_option maxHeartbeats 1000000 in
theorem pushGroup_any (base : Nat) (v : Value) (n : Nat) (f : Nat → Nat) (s : ByteArray) (w : World) (hown : Own .u32 86 w base v n f) (hbase : base ≤ w.heap.size) (hf : ∀ j, j < n → f j < 4294967296) (ht : Trimmed f n) (hn : n ≤ 1099511627776)
    (hs : s.size ≤ 9) (hd : ∀ i, i < s.size → 48 ≤ bt s i ∧ bt s i ≤ 57) :
    Calls Tryz.prog 154 #[v, .string s] w fun e w' => PushPost w w' e base (num 4294967296 f n * 1000000000 + dval (bt s) s.size) := by
  have HD := Lib.hid hd
  clear hd
  obtain ⟨A, c, rfl, hA⟩ : ∃ A c, v = .slice A n c ∧ (0 < n → ∃ g, A = some ⟨g, 0, none⟩ ∧ base ≤ g) := by
    rcases hown.form with ⟨rfl, rfl⟩ | ⟨g, c, rfl, hg, _⟩
    · exact ⟨none, 0, rfl, fun h => absurd h (by omega)⟩
    · exact ⟨_, c, rfl, fun _ => ⟨g, rfl, hg⟩⟩
  have HA := Lib.hid hA
  have HO := Lib.hid hown
  have HF := Lib.hid hf
  have HT := Lib.hid ht
  clear hA hown hf ht
  go_enter Tryz.func154, Tryz.ntmps154
  go_wp2
  go_loop [5, 6, 10] (fun v5 _ v10 => ∃ k cy, k ≤ s.size ∧ v5 = .int .u64 (cy : Nat) ∧ v10 = .int .i64 (k : Nat) ∧ cy = dval (bt s) k) (fun _ _ v10 => s.size - (intOf v10).toNat)
  case atStart => exact ⟨0, 0, Nat.zero_le _, rfl, rfl, rfl⟩
  case round =>
    obtain ⟨k, cy, hk, rfl, rfl, hcy⟩ := hrel
    by_cases hlt : k < s.size
    · have hb := HD.out k hlt
      have eb := bt_get s k hlt
      have hc1 : cy < 10 ^ k := by rw [hcy]; exact dval_lt k fun i hi => (HD.out i (by omega)).2
      have hc2 : cy < 1000000000 := Nat.lt_of_lt_of_le hc1 (Nat.le_trans (Nat.pow_le_pow_right (by omega) (show k ≤ 9 by omega)) (by decide))
      have g1 : (48 : Int) ≤ (s[k].toNat : Int) := by omega
      have g2 : (s[k].toNat : Int) ≤ 57 := by omega
      have HC : Hid (10 * cy + (s[k].toNat - 48) = dval (bt s) (k + 1)) := by
        show _ = _
        rw [dval, ← hcy, eb]
      have hN := Lib.hid hcy
      clear hcy hc1 eb hb
      go_wp2
      go_round
      case rel => exact ⟨k + 1, 10 * cy + (s[k].toNat - 48), by omega, by go_num, by go_num, HC.out⟩
      case measure => simp [intOf]; omega
    · obtain rfl : k = s.size := by omega
      have hc1 : cy < 10 ^ s.size := by rw [hcy]; exact dval_lt s.size fun i hi => (HD.out i (by omega)).2
      have hc2 : cy < 1000000000 := Nat.lt_of_lt_of_le hc1 (Nat.le_trans (Nat.pow_le_pow_right (by omega) hs) (by decide))
      have HCY := Lib.hid hcy
      clear hcy hc1 HD
      go_wp2
      go_loopw [5, 7, 24] (fun v5 _ v24 wr => ∃ k cy2 f', k ≤ n ∧ v5 = .int .u64 (cy2 : Nat) ∧ v24 = .int .i64 (k : Nat) ∧ MulAddInv k 1000000000 cy cy2 f f' ∧ Own .u32 86 wr base (.slice A n c) n f' ∧ Below base w wr) (fun _ _ v24 _ => n - (intOf v24).toNat)
      case atStart => exact ⟨0, cy, f, Nat.zero_le _, rfl, rfl, ⟨hc2, fun _ _ => rfl, fun _ hj => absurd hj (by omega), by simp [num]⟩, HO.out, Below.refl _ _⟩
      case round =>
        obtain ⟨k, cy2, f', hk, rfl, rfl, hinv, hown, hbl⟩ := hrel
        have hcy2 : cy2 < 1000000000 := hinv.1
        by_cases hlt : k < n
        · obtain ⟨g, rfl, hgb⟩ := HA.out (by omega)
          have hcell := (hown.rd_).at_ hlt
          rw [add_mk, Nat.zero_add] at hcell
          have hfz := hown.frozen k
          have b1 : f' k < 4294967296 := by rw [hinv.2.1 k (Nat.le_refl _)]; exact HF.out k hlt
          have HI := Lib.hid (hinv.step (HF.out k hlt))
          have HO2 := Lib.hid (hown.set_ k ((cy2 + f' k * 1000000000) % 4294967296))
          have HB2 := Lib.hid (hbl.setCell (p := ⟨g, k, none⟩) hgb (.int .u32 ((cy2 + f' k * 1000000000) % 4294967296 : Nat)))
          clear hinv hown hbl
          go_wp2
          go_roundw
          case rel => exact ⟨k + 1, _, _, by omega, rfl, by go_num, HI.out, HO2.out, HB2.out⟩
          case measure => simp [intOf]; omega
        · obtain rfl : k = n := by omega
          obtain ⟨i1, i2, i3, i4⟩ := hinv
          rw [HCY.out] at i4
          by_cases hz : cy2 = 0
          · subst hz
            have HQ : Hid (OwnNat wr base (.slice A k c) (num 4294967296 f k * 1000000000 + dval (bt s) s.size)) := by
              refine ⟨k, f', hown, i3, trimmed_of_low i3 ?_, by omega⟩
              rcases Nat.eq_zero_or_pos k with h0 | h0
              · exact .inl h0
              · right
                have := HT.out.low h0 (B := 4294967296)
                omega
            clear i2 i3 i4 hown
            go_wp2
            go_ret
            exact ⟨_, rfl, HQ.out, hbl⟩
          · have hg3 : ((cy2 : Int) != 0) = true := by rw [bne_iff_ne]; omega
            have HZ : Hid (cy2 ≠ 0) := hz
            have I3 := Lib.hid i3
            have I4 := Lib.hid i4
            have hwb : base ≤ wr.heap.size := Nat.le_trans hbase hbl.size
            clear i2 i3 i4 hz
            have hrd1 : Rd .u32 (wr.alloc (.cells #[.int .u32 (cy2 : Nat)] 86)) (some ⟨wr.heap.size, 0, none⟩) 1 (fun _ => cy2) := (row_one wr cy2).rd0 (Nat.le_refl _)
            have hown1 := hown.alloc (.cells #[.int .u32 (cy2 : Nat)] 86)
            go_wp2_with (at_builtin; refine wpList_app rfl (.tmp 45) (.tmp 48) 22 rfl .u32 86 Tryz.underlying22 4 u32_info' (by omega) base (.slice A k c) k f' rfl hown1 (some ⟨wr.heap.size, 0, none⟩) 1 1 (fun _ => cy2) rfl hrd1 (fun h => by cases h) (by omega) (by simp; omega) ?_; intro v2 w2 hown2 hb2 hsz2)
            go_ret
            refine ⟨v2, rfl, ⟨k + 1, _, hown2, fun j hj => ?_, .inr ?_, ?_⟩, (hbl.trans ((below_new wr _).mono (by omega))).trans hb2⟩
            · simp only [appF]
              split
              · exact I3.out j ‹_›
              · omega
            · simp only [Nat.add_sub_cancel, appF, Nat.lt_irrefl, if_false]
              exact HZ.out
            · rw [num_succ, num_congr (f' := f') k (fun j hj => by simp [appF, hj])]
              simp only [appF, Nat.lt_irrefl, if_false]
              exact I4.out
end Go.Proofs.YtglcififcldchaaGreatDoor

/- Contracts: Parse. -/
namespace Go.Proofs.YtglcififcldchaaGreatDoor
open Go.RowKit

theorem isNumber_any (s : ByteArray) (w : World) (hm : s.size ≤ 4611686018427387904) (b : Bool) (hb : b = true ↔ IsNum s) :
    Calls Tryz.prog 153 #[.string s] w fun e w' => e = .returned (.bool b) ∧ w' = w := by
  have hf : ¬ IsNum s → b = false := fun h => by
    cases b
    · rfl
    · exact absurd (hb.1 rfl) h
  by_cases h0 : s.size = 0
  · have e : s = ByteArray.empty := by
      cases s with | mk d => 
      have : d = #[] := Array.eq_empty_of_size_eq_zero h0
      subst this; rfl
    rw [hf (fun h => by have := h.1; omega), e]
    exact isNumber_empty w
  · by_cases h1 : 40000 < s.size
    · rw [hf (fun h => by have := h.2.1; omega)]
      exact isNumber_long s w h1 hm
    · by_cases h2 : bt s 0 = 48 ∧ 1 < s.size
      · rw [hf (fun h => h.2.2.1 h2)]
        exact isNumber_lead s w (by omega) h2.2 h2.1
      · exact isNumber_rest s w (by omega) (by omega) (by omega) b (hb.trans ⟨fun h => h.2.2.2, fun h => ⟨by omega, by omega, h2, h⟩⟩)

/-- What Parse leaves. -/
def ParsePost (w w' : World) (e : Ending) (b : Bool) (N : Nat) : Prop := ∃ v, e = .returned (.tuple #[v, .bool b]) ∧ IsNat w' v N ∧ Below w.heap.size w w'

set_option maxHeartbeats 1000000 in
theorem parse_no (s : ByteArray) (w : World) (hm : s.size ≤ 4611686018427387904) (h : ¬ IsNum s) :
    Calls Tryz.prog 137 #[.string s] w fun e w' => ParsePost w w' e false 0 := by
  have D := Lib.hid (isNumber_any s w hm false ⟨fun h2 => (by cases h2), fun h2 => absurd h2 h⟩)
  clear h
  go_enter Tryz.func137, Tryz.ntmps137
  go_wp2_with fail
  refine D.out.mono ?_
  rintro e w' ⟨rfl, rfl⟩
  go_wp2
  go_ret2
  exact ⟨_, rfl, isNat_nil _, Below.refl _ _⟩

theorem bt_extract (s : ByteArray) (a b i : Nat) (hb : b ≤ s.size) (hi : a + i < b) : bt (s.extract a b) i = bt s (a + i) := by
  have h1 : i < (s.extract a b).size := by rw [ByteArray.size_extract]; omega
  rw [bt_get _ _ h1, bt_get _ _ (by omega), ByteArray.getElem_extract]

theorem ownNat_len {w : World} {base : Nat} {v : Value} {N k : Nat} (h : OwnNat w base v N) (hN : N < 10 ^ (9 * k)) : ∃ n f, Own .u32 86 w base v n f ∧ (∀ j, j < n → f j < 4294967296) ∧ Trimmed f n ∧ num 4294967296 f n = N ∧ n ≤ k := by
  obtain ⟨n, f, h1, h2, h3, h4⟩ := h
  refine ⟨n, f, h1, h2, h3, h4, h3.len (B := 4294967296) (by omega) (k := k) ?_⟩
  rw [h4]
  rw [Nat.pow_mul] at hN
  exact Nat.lt_of_lt_of_le hN (Nat.pow_le_pow_left (by decide) k)

set_option maxHeartbeats 1000000 in
theorem parse_yes (s : ByteArray) (w : World) (h : IsNum s) :
    Calls Tryz.prog 137 #[.string s] w fun e w' => ParsePost w w' e true (dval (bt s) s.size) := by
  have D := Lib.hid (isNumber_any s w (by have := h.2.1; omega) true ⟨fun _ => h, fun _ => rfl⟩)
  have h0 := h.1
  have h1 := h.2.1
  have HD := Lib.hid h.2.2.2
  clear h
  have hr9 : s.size % 9 < 9 := Nat.mod_lt _ (by omega)
  have hdm := Lib.hid (Nat.div_add_mod s.size 9)
  go_enter Tryz.func137, Tryz.ntmps137
  go_wp2_with fail
  refine D.out.mono ?_
  rintro e w2 ⟨rfl, hw⟩
  subst w2
  go_wp2_with (at_make; refine wpList_make_cap rfl _ _ 22 rfl .u32 86 Tryz.underlying22 4 u32_info' (by omega) _ _ _ (s.size / 9 + 1) rfl rfl (by omega) (by omega) (fun _ => 0) ?_; intro w1 hown1 hb1 hs1)
  refine (pushGroup_any w.heap.size _ 0 (fun _ => 0) (s.extract 0 (s.size % 9)) w1 hown1 hs1 (fun j hj => absurd hj (by omega)) (.inl rfl) (by omega) (by rw [ByteArray.size_extract]; omega) (fun i hi => ?_)).mono ?_
  · rw [ByteArray.size_extract] at hi
    rw [bt_extract _ _ _ _ (by omega) (by omega)]
    exact HD.out _ (by omega)
  rintro e w3 ⟨v3, rfl, hv3, hb3⟩
  have HV3 : Hid (OwnNat w3 w.heap.size v3 (dval (bt s) (s.size % 9 + 9 * 0))) := by
    have e1 : dval (bt (s.extract 0 (s.size % 9))) (s.extract 0 (s.size % 9)).size = dval (bt s) (s.size % 9 + 9 * 0) := by
      rw [ByteArray.size_extract, show min (s.size % 9) s.size - 0 = s.size % 9 + 9 * 0 from by omega]
      exact dval_congr _ fun i hi => by rw [bt_extract _ _ _ _ (by omega) (by omega), Nat.zero_add]
    rw [e1] at hv3
    simp only [num, Nat.zero_mul, Nat.zero_add] at hv3
    exact hv3
  have HB3 := Lib.hid (hb1.trans hb3)
  have hs3 : w.heap.size ≤ w3.heap.size := Nat.le_trans hs1 hb3.size
  clear hv3 hb1 hb3 hown1
  go_wp2
  go_loopw [4, 6, 7, 27] (fun v4 _ _ v27 wr => ∃ k, k ≤ s.size / 9 ∧ v27 = .int .i64 (k : Nat) ∧ w.heap.size ≤ wr.heap.size ∧ OwnNat wr w.heap.size v4 (dval (bt s) (s.size % 9 + 9 * k)) ∧ Below w.heap.size w wr) (fun _ _ _ v27 _ => s.size / 9 - (intOf v27).toNat)
  case atStart => exact ⟨0, Nat.zero_le _, rfl, hs3, HV3.out, HB3.out⟩
  case round =>
    obtain ⟨k, hk, rfl, hws, hv, hbl⟩ := hrel
    clear HV3 HB3
    by_cases hlt : k < s.size / 9
    · obtain ⟨n, f, o1, o2, o3, o4, o5⟩ := ownNat_len (k := k + 1) hv (by
        refine Nat.lt_of_lt_of_le (dval_lt _ fun i hi => (HD.out i (by omega)).2) (Nat.pow_le_pow_right (by omega) (by omega)))
      have hsz : (s.extract (s.size % 9 + 9 * k) (s.size % 9 + 9 * k + 9)).size = 9 := by rw [ByteArray.size_extract]; omega
      have DP := Lib.hid (pushGroup_any w.heap.size _ n f (s.extract (s.size % 9 + 9 * k) (s.size % 9 + 9 * k + 9)) wr o1 hws o2 o3 (by omega) (by omega) (fun i hi => by
        rw [hsz] at hi
        rw [bt_extract _ _ _ _ (by omega) (by omega)]
        exact HD.out _ (by omega)))
      have HE : Hid (num 4294967296 f n * 1000000000 + dval (bt (s.extract (s.size % 9 + 9 * k) (s.size % 9 + 9 * k + 9))) (s.extract (s.size % 9 + 9 * k) (s.size % 9 + 9 * k + 9)).size = dval (bt s) (s.size % 9 + 9 * (k + 1))) := by
        show _ = _
        have e2 : dval (bt (s.extract (s.size % 9 + 9 * k) (s.size % 9 + 9 * k + 9))) 9 = dval (fun j => bt s (s.size % 9 + 9 * k + j)) 9 :=
          dval_congr 9 fun i hi => bt_extract s (s.size % 9 + 9 * k) (s.size % 9 + 9 * k + 9) i (by omega) (by omega)
        have e3 := dval_add (bt s) (s.size % 9 + 9 * k) 9
        rw [show (10 : Nat) ^ 9 = 1000000000 from by decide] at e3
        rw [hsz, o4, e2, show s.size % 9 + 9 * (k + 1) = s.size % 9 + 9 * k + 9 from by omega, e3]
      clear o1 o2 o3 o4 hsz hv
      go_wp2_with fail
      refine DP.out.mono ?_
      rintro e w4 ⟨v4, rfl, hv4, hb4⟩
      rw [HE.out] at hv4
      have HV4 := Lib.hid hv4
      have HB4 := Lib.hid (hbl.trans hb4)
      have hs4 : w.heap.size ≤ w4.heap.size := Nat.le_trans hws hb4.size
      clear hv4 hb4 hbl DP HE
      go_wp2
      go_roundw
      case rel => exact ⟨k + 1, by omega, by go_num, hs4, HV4.out, HB4.out⟩
      case measure => simp [intOf]; omega
    · obtain rfl : k = s.size / 9 := by omega
      rw [show s.size % 9 + 9 * (s.size / 9) = s.size from by omega] at hv
      obtain ⟨n, f, o1, o2, o3, o4⟩ := hv
      have HQ : Hid (IsNat wr u4 (dval (bt s) s.size)) := by
        rcases o1.form with ⟨rfl, h2⟩ | ⟨g, c, rfl, hg, hc⟩
        · exact ⟨none, 0, 0, f, rfl, Nat.le_refl _, Rd.zero, fun j hj => absurd hj (by omega), .inl rfl, by rw [← o4, h2]⟩
        · exact ⟨_, n, c, f, rfl, hc, o1.rd_, o2, o3, o4⟩
      clear o1 o2 o3 o4
      go_wp2
      go_ret2
      exact ⟨_, rfl, HQ.out, hbl⟩
end Go.Proofs.YtglcififcldchaaGreatDoor

/- A number's text is read as it. -/
namespace Go.Proofs.YtglcififcldchaaGreatDoor
open Go.RowKit

theorem exists_len (M : Nat) : 0 < M → ∃ k, 0 < k ∧ 10 ^ (k - 1) ≤ M ∧ M < 10 ^ k := by
  induction M using Nat.strongRecOn with
  | ind M ih =>
    intro h
    by_cases h10 : M < 10
    · exact ⟨1, by omega, by rw [Nat.sub_self, Nat.pow_zero]; omega, by rw [Nat.pow_one]; exact h10⟩
    · obtain ⟨k, hk, h1, h2⟩ := ih (M / 10) (Nat.div_lt_self h (by omega)) (by omega)
      refine ⟨k + 1, by omega, ?_, ?_⟩
      · rw [Nat.add_sub_cancel, show k = (k - 1) + 1 from by omega, Nat.pow_succ]
        rw [Nat.le_div_iff_mul_le (by omega)] at h1
        exact h1
      · rw [Nat.pow_succ]
        rw [Nat.div_lt_iff_lt_mul (by omega)] at h2
        exact h2

theorem bt_strF {n : Nat} {f : Nat → Nat} (hf : ∀ j, j < n → f j < 256) {j : Nat} (hj : j < n) : bt (strF n f) j = f j := by
  unfold bt strF
  simp only [List.getD, List.getElem?_map, List.getElem?_range hj, Option.map_some, Option.getD_some]
  rw [UInt8.toNat_ofNat']
  exact Nat.mod_eq_of_lt (hf j hj)

theorem dval_dig (M k : Nat) : ∀ i, i ≤ k → dval (fun j => dig M (k - 1 - j)) i = M / 10 ^ (k - i) % 10 ^ i
  | 0, _ => by simp [dval, Nat.mod_one]
  | i + 1, h => by
    rw [dval, dval_dig M k i (by omega)]
    have e1 : M / 10 ^ (k - i) = M / 10 ^ (k - (i + 1)) / 10 := by
      rw [Nat.div_div_eq_div_mul, ← Nat.pow_succ]; congr 2; omega
    have e2 : dig M (k - 1 - i) - 48 = M / 10 ^ (k - (i + 1)) % 10 := by
      unfold dig
      rw [show k - 1 - i = k - (i + 1) from by omega]
      omega
    rw [e1, e2]
    generalize M / 10 ^ (k - (i + 1)) = Y
    rw [Nat.pow_succ, Nat.mul_comm (10 ^ i) 10, Nat.mod_mul]
    omega

theorem decS_strF {M : Nat} (h : 0 < M) : ∃ k, 0 < k ∧ 10 ^ (k - 1) ≤ M ∧ M < 10 ^ k ∧ decS M = strF k (fun j => dig M (k - 1 - j)) := by
  obtain ⟨k, h1, h2, h3⟩ := exists_len M h
  exact ⟨k, h1, h2, h3, (strF_dec h1 h2 h3 fun _ _ => rfl).symm⟩

/-- The text of a number above 0 is one, and its value. -/
theorem decS_num {M q : Nat} (h : 0 < M) (hM : M < 10 ^ q) (hq : q ≤ 40000) : IsNum (decS M) ∧ dval (bt (decS M)) (decS M).size = M := by
  obtain ⟨k, h1, h2, h3, h4⟩ := decS_strF h
  have hkq : k ≤ q := by
    have := (Nat.pow_lt_pow_iff_right (show 1 < 10 by omega)).1 (Nat.lt_of_le_of_lt h2 hM)
    omega
  have hd : ∀ j, j < k → bt (decS M) j = dig M (k - 1 - j) := fun j hj => by
    rw [h4]; exact bt_strF (fun i _ => Nat.lt_of_lt_of_le (dig_lt _ _) (by omega)) hj
  have hs : (decS M).size = k := by rw [h4, strF_size]
  refine ⟨⟨by omega, by omega, ?_, fun i hi => ?_⟩, ?_⟩
  · rw [hd 0 h1]
    intro h0
    have := (top_digit (N := M) (k := k) h1 h3).1 (by rw [Nat.sub_zero] at h0; exact h0.1)
    omega
  · rw [hd i (by omega)]
    have := dig_lt M (k - 1 - i)
    have : 48 ≤ dig M (k - 1 - i) := by unfold dig; omega
    omega
  · rw [hs, dval_congr k hd, dval_dig M k k (Nat.le_refl _), Nat.sub_self, Nat.pow_zero, Nat.div_one, Nat.mod_eq_of_lt h3]

theorem decS_zero : decS 0 = ⟨#[48]⟩ := by unfold decS decText; rfl
end Go.Proofs.YtglcififcldchaaGreatDoor
