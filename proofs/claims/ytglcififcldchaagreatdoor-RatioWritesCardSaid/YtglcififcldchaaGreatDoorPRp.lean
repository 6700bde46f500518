/- Contracts of the document's own reading: Parse. -/
import Derived.Test.YtglcififcldchaaGreatDoorPNatE
import Derived.Test.YtglcififcldchaaGreatDoorPNatB
import Derived.Deep.RegionWith
import Derived.Deep.DrawnRows
namespace Go.Proofs.YtglcififcldchaaGreatDoor
open Go.RowKit
attribute [local go_sem ↓] Go.wp_at_zero Go.wp_at_succ

theorem isNum_at {s : ByteArray} (h : IsNum s) : ∀ k, k < s.size → 48 ≤ bt s k ∧ bt s k ≤ 57 := h.2.2.2
def RpInv (w wr : World) (v : Value) (s : ByteArray) (k : Nat) : Prop := IsDig wr v (dval (bt s) k) ∧ (∀ i, i < k → 48 ≤ bt s i ∧ bt s i ≤ 57) ∧ Below w.heap.size w wr

def RparsePost (w w' : World) (e : Ending) (s : ByteArray) : Prop := (IsNum s → ParsePost w w' e true (dval (bt s) s.size)) ∧ (¬ IsNum s → ParsePost w w' e false 0)
theorem RparsePost.no {w w' : World} {s : ByteArray} (h : ¬ IsNum s) (hb : Below w.heap.size w w') : RparsePost w w' (.returned (.tuple #[.slice none 0 0, .bool false])) s := ⟨fun h' => absurd h' h, fun _ => ⟨_, rfl, isNat_nil _, hb⟩⟩

set_option maxHeartbeats 2000000 in
theorem rparse_rest (s : ByteArray) (w : World) (h0 : 0 < s.size) (h1 : s.size ≤ 40000) (h3 : bt s 0 ≠ 48 ∨ s.size ≤ 1) :
    Calls Tryz.prog 80 #[.string s] w fun e w' => RparsePost w w' e s := by
  have hg1 : decide ((s.size : Int) < 1) = false := decide_eq_false (by omega)
  have hg0 : decide ((40000 : Int) < (s.size : Int)) = false := decide_eq_false (by omega)
  have e0 := bt_get s 0 h0
  have HN : Hid (¬ (bt s 0 = 48 ∧ 1 < s.size)) := by show ¬ _; omega
  have H : Hid (decide ((1 : Int) < (s.size : Int)) = false ∨ (decide ((1 : Int) < (s.size : Int)) = true ∧ ((s[0].toNat : Int) == 48) = false)) := by
    rw [e0] at h3
    by_cases h : s.size ≤ 1
    · exact .inl (decide_eq_false (by omega))
    · exact .inr ⟨decide_eq_true (by omega), by rw [beq_eq_false_iff_ne]; omega⟩
  clear e0 h3
  go_enter Tryz.func80, Tryz.ntmps80
  rcases H.out with hg2 | ⟨hg2, hg3⟩
  all_goals
    clear H
    go_wp2
    go_loopw [4, 5] (fun v4 v5 wr => ∃ k : Nat, k ≤ s.size ∧ v5 = .int .i64 k ∧ RpInv w wr v4 s k) (fun _ v5 _ => s.size - (intOf v5).toNat)
    case atStart => exact ⟨0, Nat.zero_le _, rfl, IsDig.nil _, fun i hi => absurd hi (by omega), Below.refl _ _⟩
    case round =>
      obtain ⟨k, hk, rfl, hinv⟩ := hrel
      have HI := Lib.hid hinv
      clear hinv
      by_cases hlt : k < s.size
      · have ek := bt_get s k hlt
        by_cases hbad : s[k].toNat < 48 ∨ 57 < s[k].toNat
        · have HNN : Hid (¬ IsNum s) := by show ¬ _; intro h; have := isNum_at h k hlt; omega
          have HB := Lib.hid HI.out.2.2
          clear ek HI
          rcases hbad with hlo | hhi
          · have hg4 : (s[k].toNat : Int) < 48 := by omega
            go_wp2
            go_ret2
            exact RparsePost.no HNN.out HB.out
          · have hg4 : (48 : Int) ≤ (s[k].toNat : Int) := by omega
            have hg5 : (57 : Int) < (s[k].toNat : Int) := by omega
            go_wp2
            go_ret2
            exact RparsePost.no HNN.out HB.out
        · have hg4 : (48 : Int) ≤ (s[k].toNat : Int) := by omega
          have hg5 : (s[k].toNat : Int) ≤ 57 := by omega
          have HX : Hid (dval (bt s) k < 256 ^ k) := by
            show _ < _
            exact Nat.lt_of_lt_of_le (dval_lt k fun i hi => (HI.out.2.1 i hi).2) (Nat.pow_le_pow_left (by omega) k)
          have hw1 : IntKind.u8.wrap ((s[k].toNat : Int) - 48) = (s[k].toNat : Int) - 48 := by
            generalize s[k].toNat = c at *
            simp [IntKind.wrap, IntKind.bits, IntKind.signed]
            omega
          have hw2 : IntKind.i64.wrap ((s[k].toNat : Int) - 48) = (s[k].toNat : Int) - 48 := IntWalk.i64_in _ (by omega)
          have hc : (s[k].toNat : Int) - 48 = ((bt s k - 48 : Nat) : Int) := by omega
          have hc2 : bt s k - 48 < 256 := by omega
          have HC := Lib.hid hc
          have HD := HI.out.1
          clear hc
          have HA := Lib.hid HI.out.2.1
          have HB := Lib.hid HI.out.2.2
          clear HI
          have HX10 : Hid (dval (bt s) k * 10 < 256 ^ (k + 1)) := by
            show _ < _
            have := HX.out
            rw [Nat.pow_succ]
            omega
          go_wp2
          go_region_with (first
            | (go_at_call 113; refine Calls.mono (dig_mul (k := k) (m := 1) (N := dval (bt s) k) (M := 10) (by repeat (first | assumption | with_reducible refine IsDig.drew_ ?_ | with_reducible refine IsDig.alloc_ ?_ _ | with_reducible refine IsDig.below ?_ (by assumption))) (by repeat (first | with_reducible exact dig_lit _ _ (by simp) 10 _ rfl (by omega) (by omega) | with_reducible refine IsDig.drew_ ?_ | with_reducible refine IsDig.alloc_ ?_ _ | with_reducible refine IsDig.below ?_ (by assumption))) HX.out (by decide) (by omega) (by omega)) ?_; rintro e w1 ⟨v1, rfl, hm, hbm⟩)
            | (go_at_call 114; refine Calls.mono (qd_cut (m := 1) (Q := bt s k - 48) (by repeat (first | with_reducible exact qd_lit _ _ (by simp) (bt s k - 48) _ HC.out hc2 | with_reducible refine QD.drew_ ?_ | with_reducible refine QD.alloc_ ?_ _ | with_reducible refine QD.below ?_ (by assumption))) (by omega)) ?_; rintro e w2 ⟨⟨v2, rfl, hcut⟩, rfl⟩)
            | (go_at_call 112; refine Calls.mono (dig_add (k := k + 1) (m := 1) (N := dval (bt s) k * 10) (M := bt s k - 48) (by repeat (first | assumption | with_reducible refine IsDig.drew_ ?_ | with_reducible refine IsDig.alloc_ ?_ _ | with_reducible refine IsDig.below ?_ (by assumption))) (by repeat (first | assumption | with_reducible refine IsDig.drew_ ?_ | with_reducible refine IsDig.alloc_ ?_ _ | with_reducible refine IsDig.below ?_ (by assumption))) HX10.out hc2 (by omega) (by omega)) ?_; rintro e w3 ⟨v3, rfl, hsum, hbs⟩))
          all_goals
            have HR : Hid (IsDig w3 v3 (dval (bt s) (k + 1))) := by
              show IsDig w3 v3 (10 * dval (bt s) k + (bt s k - 48))
              rw [Nat.mul_comm 10]
              exact hsum
            have HB3 : Hid (Below w.heap.size w w3) := by
              refine HB.out.trans (Below.mono ?_ HB.out.size)
              have hz1 := hbm.size
              have hz3 := hbs.size
              simp at hz1 hz3
              repeat first
                | exact Below.refl _ _
                | exact (Below.refl _ _).drew
                | (with_reducible refine Below.trans ?_ (Below.mono (by assumption) ?_))
                | (with_reducible refine Below.alloc_ ?_ ?_ _)
                | (with_reducible refine Below.drew ?_)
                | exact Nat.le_refl _
                | omega
                | focus (simp <;> omega)
            have HA1 : Hid (∀ i, i < k + 1 → 48 ≤ bt s i ∧ bt s i ≤ 57) := by
              show ∀ i, _
              intro i hi
              by_cases hik : i = k
              · subst hik; omega
              · exact HA.out i (by omega)
            clear hw1 hw2 hc2 hm hbm hcut hsum hbs
            go_wp2
            go_roundw
            case rel => exact ⟨k + 1, by omega, by go_num, HR.out, HA1.out, HB3.out⟩
            case measure => simp [intOf]; omega
      · obtain rfl : k = s.size := by omega
        have HNUM : Hid (IsNum s) := ⟨h0, h1, HN.out, HI.out.2.1⟩
        have HL := Lib.hid (IsDig.limbs (k := s.size) HI.out.1 (Nat.lt_of_lt_of_le (dval_lt s.size fun i hi => (HI.out.2.1 i hi).2) (Nat.pow_le_pow_left (by omega) s.size)) (by omega))
        have HB := Lib.hid HI.out.2.2
        clear HI
        go_wp2_with fail
        refine HL.out.mono ?_
        rintro e w4 ⟨v4, rfl, h4, hb4⟩
        have H4 := Lib.hid h4
        have HB4 := Lib.hid (below_trans HB.out hb4)
        clear h4 hb4 HL
        go_wp2
        go_ret2
        exact ⟨fun _ => ⟨_, rfl, H4.out, HB4.out⟩, fun h => absurd HNUM.out h⟩

/-- The document's Parse. -/
theorem rparse_yes (s : ByteArray) (w : World) (h : IsNum s) : Calls Tryz.prog 80 #[.string s] w fun e w' => ParsePost w w' e true (dval (bt s) s.size) :=
  (rparse_rest s w h.1 h.2.1 (by have := h.2.2.1; omega)).mono fun _ _ h' => h'.1 h
set_option maxHeartbeats 1000000 in
theorem rparse_early (s : ByteArray) (w : World) (hm : s.size ≤ 4611686018427387904) (h : s.size = 0 ∨ 40000 < s.size ∨ (1 < s.size ∧ bt s 0 = 48)) :
    Calls Tryz.prog 80 #[.string s] w fun e w' => ParsePost w w' e false 0 := by
  have H : Hid ((decide ((s.size : Int) < 1) = true) ∨ (decide ((s.size : Int) < 1) = false ∧ decide ((40000 : Int) < (s.size : Int)) = true) ∨ (∃ h0 : 0 < s.size, decide ((s.size : Int) < 1) = false ∧ decide ((40000 : Int) < (s.size : Int)) = false ∧ decide ((1 : Int) < (s.size : Int)) = true ∧ ((s[0].toNat : Int) == 48) = true)) := by
    by_cases a : s.size = 0
    · exact .inl (decide_eq_true (by omega))
    by_cases b : 40000 < s.size
    · exact .inr (.inl ⟨decide_eq_false (by omega), decide_eq_true (by omega)⟩)
    have c : 1 < s.size ∧ bt s 0 = 48 := by omega
    have e0 := bt_get s 0 (by omega)
    exact .inr (.inr ⟨by omega, decide_eq_false (by omega), decide_eq_false (by omega), decide_eq_true (by omega), by rw [beq_iff_eq]; omega⟩)
  clear h
  rcases H.out with h1 | ⟨h1, h2⟩ | ⟨h0, h1, h2, h3, h4⟩
  all_goals
    clear H
    go_enter Tryz.func80, Tryz.ntmps80
    go_wp2
    go_ret2
    exact ⟨_, rfl, isNat_nil _, Below.refl _ _⟩
theorem rparse_no (s : ByteArray) (w : World) (hm : s.size ≤ 4611686018427387904) (h : ¬ IsNum s) :
    Calls Tryz.prog 80 #[.string s] w fun e w' => ParsePost w w' e false 0 := by
  by_cases hc : s.size = 0 ∨ 40000 < s.size ∨ (1 < s.size ∧ bt s 0 = 48)
  · exact rparse_early s w hm hc
  · exact (rparse_rest s w (by omega) (by omega) (by omega)).mono fun _ _ h' => h'.2 h
end Go.Proofs.YtglcififcldchaaGreatDoor
