/- NatTexts: the walk. -/
import Derived.Test.YtonjecddhbckgaaDe
import Derived.Test.YtonjecddhbckgaaRb
import Derived.Test.YtonjecddhbckgaaRow
namespace Go.Proofs.Ytonjecddhbckgaa
open Go.RowKit

theorem lim_rtrim {k : Nat} {w : World} {v1 : Value} {N : Nat} (h1 : Lim k w v1 N) (hk : k ≤ 1000000) : Calls Try.prog 17 #[v1] w fun e w' => NatPost w w' e N := by
  obtain ⟨A, n, c, f, rfl, a1, a2, a3, a4, rfl⟩ := h1
  exact rtrim_any A n c f w a2 a1 (by omega) a3

/-- A byte as a string. -/
def oneB (k : Nat) : ByteArray := ⟨#[UInt8.ofNat (48 + k)]⟩
theorem conv_one (k : Nat) (w : World) : (convert 32 9 (.slice (some ⟨w.heap.size, 0, none⟩) 1 1)).run Try.prog (w.alloc (.cells #[.int .u8 (48 + (k : Int))] 5)) = .ok (.string (oneB k)) (w.alloc (.cells #[.int .u8 (48 + (k : Int))] 5)) := by
  have h : Rd .u8 (w.alloc (.cells #[.int .u8 (48 + (k : Int))] 5)) (some ⟨w.heap.size, 0, none⟩) 1 (fun _ => 48 + k) := (row_one w (48 + k)).rd0 (Nat.le_refl _)
  exact run_conv_rd (P := Try.prog) _ 32 5 under32 under5 w.heap.size 0 1 1 (fun _ => 48 + k) h 9 under9

theorem cat_one {N k q : Nat} (h : 0 < N) (hk : k < 10) (hN : N < 10 ^ q) (hq : q ≤ 40000) (w : World) : (Op.stringOp .add (decS N) (oneB k)).run Try.prog w = .ok (.string (decS (N * 10 + k))) w := by
  have h1 := (decS_num h hN hq).1.2.1
  have h2 : (oneB k).size = 1 := rfl
  rw [run_string_add w _ _ (by omega) (by omega), decS_snoc h hk]
  congr 2
  apply ByteArray.ext
  simp [oneB]

set_option maxHeartbeats 4000000 in
theorem natTexts_pos (a : Option Addr) (n c : Nat) (d k : Nat) (N : Nat) (w : World) (hn : n ≤ 8) (hd : d < 256) (hk : d % 10 = k)
    (ha : Lim 8 w (.slice a n c) N) (hN : 0 < N) :
    Calls Try.prog 9 #[.slice a n c, .int .u8 (d : Nat)] w fun e w' => e = .returned (.bool true) ∧ Below w.heap.size w w' := by
  have BN := Lib.hid ha.lt
  have La := Lib.hid ha
  have HN := Lib.hid hN
  have hk10 : k < 10 := by omega
  have hkd : (d : Int) % 10 = (k : Int) := by omega
  have hconv := conv_one k
  have hN80 : N < 10 ^ 80 := Nat.lt_of_lt_of_le ha.lt (by decide)
  have hcat := cat_one (N := N) (k := k) hN hk10 hN80 (by omega)
  clear hN80
  have g1 : (n : Int) ≤ 8 := by omega
  clear ha hN hk
  go_enter Try.func9, Try.ntmps9
  go_wp2_with fail
  refine (awake_any _).mono ?_
  rintro e w1 ⟨rfl, hb⟩
  have hb' : Below w.heap.size w w1 := hb
  have La_1 := Lib.hid (La.out.below hb')
  have HB_1 := Lib.hid hb'
  clear hb hb' La
  go_wp2_with fail
  refine (lim_text La_1.out (by omega)).mono ?_
  rintro e w2 ⟨rfl, hb⟩
  have hb' : Below w1.heap.size w1 w2 := hb
  have La_2 := Lib.hid (La_1.out.below hb')
  have HB_2 := Lib.hid (below_trans HB_1.out hb')
  clear hb hb' La_1 HB_1
  go_wp2_with fail
  refine (lim_mul (La_2.out.below (below_new _ _)) (lit_one _ _ rfl 10 _ rfl (by omega)) (by omega) (by omega)).mono ?_
  rintro e w3 ⟨vm, rfl, hm, hb⟩
  have hb' : Below w2.heap.size w2 w3 := (below_new w2 _).trans (hb.mono (by simp; try omega))
  have La_3 := Lib.hid (La_2.out.below hb')
  have m_3 := Lib.hid hm
  have HB_3 := Lib.hid (below_trans HB_2.out hb')
  clear hb hb' hm La_2 HB_2
  go_wp2_with fail
  refine (lim_add (k := 10) ((m_3.out.lim (lt_mul (m := 1) BN.out (by decide) 10 (by omega))).below (below_new _ _)) (lit_one _ _ rfl k _ rfl (by omega)) (by omega) (by omega)).mono ?_
  rintro e w4 ⟨vs, rfl, hs, hb⟩
  have hb' : Below w3.heap.size w3 w4 := (below_new w3 _).trans (hb.mono (by simp; try omega))
  have La_4 := Lib.hid (La_3.out.below hb')
  have s_4 := Lib.hid hs
  have HB_4 := Lib.hid (below_trans HB_3.out hb')
  clear hb hb' hs La_3 m_3 HB_3
  have hlt : N * 10 + k < 4294967296 ^ 12 := lt_add (k := 11) (m := 1) (lt_mul (m := 1) BN.out (by decide) 11 (by omega)) (by rw [Nat.pow_one]; omega) 12 (by omega) (by omega)
  have HLT := Lib.hid hlt
  clear hlt
  go_wp2_with fail
  refine (lim_text (s_4.out.lim HLT.out) (by omega)).mono ?_
  rintro e w5 ⟨rfl, hb⟩
  have hb' : Below w4.heap.size w4 w5 := hb
  have La_5 := Lib.hid (La_4.out.below hb')
  have s_5 := Lib.hid (s_4.out.below hb')
  have HB_5 := Lib.hid (below_trans HB_4.out hb')
  clear hb hb' La_4 s_4 HB_4
  have HNUM := Lib.hid (decS_num (M := N * 10 + k) (q := 120) (by have := HN.out; omega) (Nat.lt_of_lt_of_le HLT.out (by decide)) (by omega))
  have DP := fun w => parse_yes _ w HNUM.out.1
  rw [HNUM.out.2] at DP
  have HDP := Lib.hid DP
  clear DP
  go_wp2_with fail
  refine (HDP.out _).mono ?_
  rintro e w6 ⟨vp, rfl, hp, hb⟩
  have hb' : Below w5.heap.size w5 w6 := (below_new w5 _).trans (hb.mono (by simp; try omega))
  have La_6 := Lib.hid (La_5.out.below hb')
  have s_6 := Lib.hid (s_5.out.below hb')
  have p_6 := Lib.hid hp
  have HB_6 := Lib.hid (below_trans HB_5.out hb')
  clear hb hb' hp La_5 s_5 HB_5
  go_wp2_with fail
  refine (lim_rtrim La_6.out (by omega)).mono ?_
  rintro e w7 ⟨vt, rfl, ht, hb⟩
  have hb' : Below w6.heap.size w6 w7 := hb
  have s_7 := Lib.hid (s_6.out.below hb')
  have p_7 := Lib.hid (p_6.out.below hb')
  have t_7 := Lib.hid ht
  have HB_7 := Lib.hid (below_trans HB_6.out hb')
  clear hb hb' ht La_6 s_6 p_6 HB_6
  obtain ⟨A7, n7, c7, f7, rfl, t1, t2, t3, t4, t5⟩ := t_7.out
  have hn7 : 0 < n7 := by
    rcases Nat.eq_zero_or_pos n7 with h | h
    · subst h; have := HN.out; rw [← t5] at this; exact absurd this (by simp [num])
    · exact h
  have hg7 : ((n7 : Int) == 0) = false := by rw [beq_eq_false_iff_ne]; omega
  clear t1 t2 t3 t4 t5
  go_wp2_with fail
  refine (isNat_same (k := 12) (p_7.out.below (below_new _ _)) (s_7.out.below (below_new _ _)) HLT.out (by omega)).mono ?_
  rintro e w8 ⟨rfl, hb⟩
  have hb' : Below w7.heap.size w7 w8 := (below_new w7 _).trans (hb.mono (by simp; try omega))
  have HB_8 := Lib.hid (below_trans HB_7.out hb')
  clear hb hb' s_7 p_7 t_7 HB_7
  go_wp2
  go_ret
  exact ⟨rfl, HB_8.out⟩
end Go.Proofs.Ytonjecddhbckgaa
