/- Contracts: isNumber. -/
import Derived.Test.YtonjecddhbckgaaCc
import Derived.Test.YtonjecddhbckgaaDec
namespace Go.Proofs.Ytonjecddhbckgaa
open Go.RowKit

/-- A byte of a string. -/
def bt (s : ByteArray) (i : Nat) : Nat := (s.data.toList.getD i 0).toNat

theorem bt_get (s : ByteArray) (i : Nat) (h : i < s.size) : bt s i = s[i].toNat := by
  unfold bt
  have h' : i < s.data.toList.length := by simpa using h
  rw [List.getD, List.getElem?_eq_getElem h']
  rfl

/-- Digits as Text has them. -/
def IsNum (s : ByteArray) : Prop := 0 < s.size ∧ s.size ≤ 40000 ∧ ¬ (bt s 0 = 48 ∧ 1 < s.size) ∧ ∀ i, i < s.size → 48 ≤ bt s i ∧ bt s i ≤ 57

set_option maxHeartbeats 1000000 in
theorem isNumber_empty (w : World) : Calls Try.prog 56 #[.string ByteArray.empty] w fun e w' => e = .returned (.bool false) ∧ w' = w := by
  go_enter Try.func56, Try.ntmps56
  go_wp2
  go_ret
  exact ⟨rfl, rfl⟩

set_option maxHeartbeats 1000000 in
theorem isNumber_long (s : ByteArray) (w : World) (h1 : 40000 < s.size) (hm : s.size ≤ 4611686018427387904) :
    Calls Try.prog 56 #[.string s] w fun e w' => e = .returned (.bool false) ∧ w' = w := by
  have hg1 : ((s.size : Int) == 0) = false := by rw [beq_eq_false_iff_ne]; omega
  have hg2 : (40000 : Int) < (s.size : Int) := by omega
  go_enter Try.func56, Try.ntmps56
  go_wp2
  go_ret
  exact ⟨rfl, rfl⟩

set_option maxHeartbeats 1000000 in
theorem isNumber_lead (s : ByteArray) (w : World) (h1 : s.size ≤ 40000) (h2 : 1 < s.size) (h3 : bt s 0 = 48) :
    Calls Try.prog 56 #[.string s] w fun e w' => e = .returned (.bool false) ∧ w' = w := by
  have hg1 : ((s.size : Int) == 0) = false := by rw [beq_eq_false_iff_ne]; omega
  have h0 : 0 < s.size := by omega
  have hg3 : ((s[0].toNat : Int) == 48) = true := by rw [beq_iff_eq, ← bt_get s 0 h0, h3]; rfl
  clear h3
  go_enter Try.func56, Try.ntmps56
  go_wp2
  go_ret
  exact ⟨rfl, rfl⟩

set_option maxHeartbeats 1000000 in
theorem isNumber_rest (s : ByteArray) (w : World) (h1 : s.size ≤ 40000) (h0 : 0 < s.size) (h3 : bt s 0 ≠ 48 ∨ s.size ≤ 1) (b : Bool) (hb : b = true ↔ ∀ i, i < s.size → 48 ≤ bt s i ∧ bt s i ≤ 57) :
    Calls Try.prog 56 #[.string s] w fun e w' => e = .returned (.bool b) ∧ w' = w := by
  have hg1 : ((s.size : Int) == 0) = false := by rw [beq_eq_false_iff_ne]; omega
  have HB := Lib.hid hb
  have e0 := bt_get s 0 h0
  have H : Hid (((s[0].toNat : Int) == 48) = false ∨ (((s[0].toNat : Int) == 48) = true ∧ s.size ≤ 1)) := by
    rw [e0] at h3
    by_cases h : s[0].toNat = 48
    · exact .inr ⟨by rw [beq_iff_eq]; omega, by omega⟩
    · exact .inl (by rw [beq_eq_false_iff_ne]; omega)
  clear hb e0 h3
  go_enter Try.func56, Try.ntmps56
  rcases H.out with hg2 | ⟨hg2, hg3⟩
  all_goals
    clear H
    go_wp2
    go_loop [24] (fun v => ∃ k : Nat, k ≤ s.size ∧ v = .int .i64 k ∧ ∀ i, i < k → 48 ≤ bt s i ∧ bt s i ≤ 57) (fun v => s.size - (intOf v).toNat)
    case atStart => exact ⟨0, Nat.zero_le _, rfl, fun i hi => absurd hi (by omega)⟩
    case round =>
      obtain ⟨k, hk, rfl, hall⟩ := hrel
      have HA := Lib.hid hall
      clear hall
      by_cases hlt : k < s.size
      · have ek := bt_get s k hlt
        by_cases hlo : s[k].toNat < 48
        · have hr : b = false := by
            cases b
            · rfl
            · have := (HB.out.1 rfl k hlt).1; omega
          subst hr
          have hg4 : (s[k].toNat : Int) < 48 := by omega
          clear ek
          go_wp2
          go_ret
          exact ⟨rfl, rfl⟩
        · have hg4 : (48 : Int) ≤ (s[k].toNat : Int) := by omega
          by_cases hhi : 57 < s[k].toNat
          · have hr : b = false := by
              cases b
              · rfl
              · have := (HB.out.1 rfl k hlt).2; omega
            subst hr
            have hg5 : (57 : Int) < (s[k].toNat : Int) := by omega
            clear ek
            go_wp2
            go_ret
            exact ⟨rfl, rfl⟩
          · have hg5 : (s[k].toNat : Int) ≤ 57 := by omega
            have HE := Lib.hid ek
            clear ek
            go_wp2
            go_round
            case rel => exact ⟨k + 1, by omega, by go_num, fun i hi => by
              by_cases hik : i = k
              · subst hik; have := HE.out; omega
              · exact HA.out i (by omega)⟩
            case measure => simp [intOf]; omega
      · have hr : b = true := HB.out.2 fun i hi => HA.out i (by omega)
        subst hr
        go_wp2
        go_ret
        exact ⟨rfl, rfl⟩
end Go.Proofs.Ytonjecddhbckgaa
