/- NatTexts: the walk, the number 0. -/
import Derived.Test.YtonjecddhbckgaaTx
namespace Go.Proofs.Ytonjecddhbckgaa
open Go.RowKit

theorem cat_zero (k : Nat) (w : World) : (Op.stringOp .add ⟨#[48]⟩ (oneB k)).run Try.prog w = .ok (.string ⟨#[48, UInt8.ofNat (48 + k)]⟩) w := by
  have h1 : (ByteArray.mk #[48]).size = 1 := rfl
  have h2 : (oneB k).size = 1 := rfl
  rw [run_string_add w _ _ (by omega) (by omega)]
  rfl

set_option maxHeartbeats 4000000 in
theorem natTexts_zero (a : Option Addr) (n c : Nat) (d k : Nat) (w : World) (hn : n ≤ 8) (hd : d < 256) (hk : d % 10 = k)
    (ha : Lim 8 w (.slice a n c) 0) :
    Calls Try.prog 9 #[.slice a n c, .int .u8 (d : Nat)] w fun e w' => e = .returned (.bool true) ∧ Below w.heap.size w w' := by
  have La := Lib.hid ha
  have hk10 : k < 10 := by omega
  have hkd : (d : Int) % 10 = (k : Int) := by omega
  have hconv := conv_one k
  have hcat := cat_zero k
  have g1 : (n : Int) ≤ 8 := by omega
  have hkz : Hid (((k : Int) == 0) = true ∨ ((k : Int) == 0) = false) := by
    show _ ∨ _
    cases ((k : Int) == 0) <;> simp
  clear ha hk
  go_enter Try.func9, Try.ntmps9
  go_wp2_with fail
  refine (awake_any _).mono ?_
  rintro e w1 ⟨rfl, hb⟩
  have hb' : Below w.heap.size w w1 := hb
  have La_1 := Lib.hid (La.out.below hb')
  have HB_1 := Lib.hid hb'
  clear hb hb' La
  have DT := lim_text La_1.out (by omega)
  rw [decS_zero] at DT
  have HDT := Lib.hid DT
  clear DT
  go_wp2_with fail
  refine (HDT.out).mono ?_
  rintro e w2 ⟨rfl, hb⟩
  have hb' : Below w1.heap.size w1 w2 := hb
  have La_2 := Lib.hid (La_1.out.below hb')
  have HB_2 := Lib.hid (below_trans HB_1.out hb')
  clear hb hb' La_1 HB_1
  go_wp2_with fail
  refine (lim_mul (La_2.out.below (below_new _ _)) (lit_one _ _ rfl 10 _ rfl (by omega)) (by omega) (by omega)).mono ?_
  rintro e w3 ⟨vm, rfl, hm, hb⟩
  have hb' : Below w2.heap.size w2 w3 := (below_new w2 _).trans (hb.mono (by simp; try omega))
  have La_3 := Lib.hid (La_2.out.below hb')
  have m_3 := Lib.hid hm
  have HB_3 := Lib.hid (below_trans HB_2.out hb')
  clear hb hb' hm La_2 HB_2
  have HM : Hid (IsNat w3 vm 0) := by have := m_3.out; rwa [Nat.zero_mul] at this
  go_wp2_with fail
  refine (lim_add (k := 1) (m := 1) (N := 0) ((HM.out.lim (by decide)).below (below_new _ _)) (lit_one _ _ rfl k _ rfl (by omega)) (by omega) (by omega)).mono ?_
  rintro e w4 ⟨vs, rfl, hs, hb⟩
  have hb' : Below w3.heap.size w3 w4 := (below_new w3 _).trans (hb.mono (by simp; try omega))
  have La_4 := Lib.hid (La_3.out.below hb')
  have s_4 := Lib.hid hs
  have HB_4 := Lib.hid (below_trans HB_3.out hb')
  clear hb hb' hs La_3 m_3 HB_3
  go_wp2_with fail
  refine (lim_text (k := 1) (s_4.out.lim (by rw [Nat.pow_one]; omega)) (by omega)).mono ?_
  rintro e w5 ⟨rfl, hb⟩
  have hb' : Below w4.heap.size w4 w5 := hb
  have La_5 := Lib.hid (La_4.out.below hb')
  have HB_5 := Lib.hid (below_trans HB_4.out hb')
  clear hb hb' La_4 s_4 HB_4
  go_wp2_with fail
  refine (parse_no _ _ (by show 2 ≤ _; omega) (zero_snoc_no _)).mono ?_
  rintro e w6 ⟨vp, rfl, hp, hb⟩
  have hb' : Below w5.heap.size w5 w6 := (below_new w5 _).trans (hb.mono (by simp; try omega))
  have La_6 := Lib.hid (La_5.out.below hb')
  have p_6 := Lib.hid hp
  have HB_6 := Lib.hid (below_trans HB_5.out hb')
  clear hb hb' hp La_5 HB_5
  go_wp2_with fail
  refine (lim_rtrim La_6.out (by omega)).mono ?_
  rintro e w7 ⟨vt, rfl, ht, hb⟩
  have hb' : Below w6.heap.size w6 w7 := hb
  have t_7 := Lib.hid ht
  have HB_7 := Lib.hid (below_trans HB_6.out hb')
  clear hb hb' ht La_6 p_6 HB_6
  obtain ⟨A7, n7, c7, f7, rfl, t1, t2, t3, t4, t5⟩ := t_7.out
  have hn7 : n7 = 0 := by
    rcases Nat.eq_zero_or_pos n7 with h | h
    · exact h
    · have := t4.pos (B := 4294967296) (by omega) h; omega
  subst hn7
  have hg7 : (((0 : Nat) : Int) == 0) = true := by decide
  clear t1 t2 t3 t4 t5
  rcases hkz.out with hz | hz
  all_goals
    clear hkz
    go_wp2
    go_ret
    exact ⟨rfl, HB_7.out⟩

set_option maxHeartbeats 1000000 in
theorem natTexts_out (a : Option Addr) (n c : Nat) (d : Int) (w : World) (hn : n ≤ 9223372036854775807) (h : 8 < n) :
    Calls Try.prog 9 #[.slice a n c, .int .u8 d] w fun e w' => e = .returned (.bool true) ∧ Below w.heap.size w w' := by
  have g1 : (8 : Int) < (n : Int) := by omega
  go_enter Try.func9, Try.ntmps9
  go_wp2_with fail
  refine (awake_any _).mono ?_
  rintro e w1 ⟨rfl, hb⟩
  go_wp2
  go_ret
  exact ⟨rfl, hb⟩

theorem natTexts_in (a : Option Addr) (n c : Nat) (d : Nat) (N : Nat) (w : World) (hn : n ≤ 8) (hd : d < 256)
    (ha : Lim 8 w (.slice a n c) N) :
    Calls Try.prog 9 #[.slice a n c, .int .u8 (d : Nat)] w fun e w' => e = .returned (.bool true) ∧ Below w.heap.size w w' := by
  rcases Nat.eq_zero_or_pos N with h | h
  · subst h
    exact natTexts_zero a n c d _ w hn hd rfl ha
  · exact natTexts_pos a n c d _ N w hn hd rfl ha h
end Go.Proofs.Ytonjecddhbckgaa
